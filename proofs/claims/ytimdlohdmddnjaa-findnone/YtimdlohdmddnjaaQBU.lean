/- The stable sort of pieces. -/
import Derived.Test.YtimdlohdmddnjaaPBT
import Derived.Test.YtimdlohdmddnjaaQBK
namespace Go.Proofs.Ytimdlohdmddnjaa.Rq.Pz
open Go.RowKit Go.Lib Go.Shelf
open Go.Proofs.Ytimdlohdmddnjaa.Rc Go.Proofs.Ytimdlohdmddnjaa.Rq
set_option maxRecDepth 100000 in
set_option maxHeartbeats 4000000 in
theorem stableR_any (w0 : World) (ok : Pc → Prop) (K : Pc → Nat) (cf : Nat) (cb : Array Value) (hC : Cmp w0 ok (ltK K) cf cb) (g z cap : Nat) (hg : w0.heap.size ≤ g) (d : Array Pc) (hd : d.size ≤ 1000000) (hok : ∀ i, i < d.size → ok d[i]!) (w : World) (h : Ur w g z d) (hW : Below w0.heap.size w0 w) :
  Calls Try.prog 90 #[.slice (some ⟨g, 0, none⟩) d.size cap, .int .i64 (d.size : Int), .func (.func cf) #[] cb] w fun e w' => e = .returned (.tuple #[]) ∧ ∃ d', Ur w' g z d' ∧ Srt K 0 d.size d' ∧ Sort.PermIn 0 d.size d d' ∧ Bg g w w' := by
 have HU : Hid (Ur w g z d) := h
 have HW : Hid (Below w0.heap.size w0 w) := hW
 have HOK : Hid (∀ i, i < d.size → ok d[i]!) := hok
 have HI : Hid _ := insR_any w0 ok (ltK K) cf cb hC g z cap
 have HM : Hid _ := symR_any w0 ok K cf cb hC g z cap hg
 clear h hW hC hok
 obtain ⟨n, hsz⟩ : ∃ n, d.size = n := ⟨_, rfl⟩
 rw [hsz] at hd ⊢
 go_enter Try.func90, Try.ntmps90
 go_wp2_with fail
 go_loopw [7, 8] (fun av bv wr => ∃ (q a b : Nat) (d1 : Array Pc), av = .int .i64 (a : Int) ∧ bv = .int .i64 (b : Int) ∧ (a = q * 20 ∧ b = a + 20 ∧ a ≤ n) ∧ Ur wr g z d1 ∧ Pre K 20 q d1 ∧ Sort.PermIn 0 n d d1 ∧ Bg g w wr) (fun _ bv _ => n + 20 - natOf bv)
 case atStart => exact ⟨0, 0, 20, d, rfl, rfl, by omega, HU.out, Pre.zero _ _ _, Sort.permIn_refl _ _ _, But.refl _ _⟩
 case round =>
  obtain ⟨q, a, b, d1, rfl, rfl, ⟨hq', rfl, han⟩, hu, hpre, hpm, hbg⟩ := hrel
  have HQ : Hid (a = q * 20) := hq'
  clear hq'
  have S1 : d1.size = n := hpm.1.trans hsz
  have HU1 : Hid (Ur wr g z d1) := hu
  have HPR : Hid (Pre K 20 q d1) := hpre
  have HPM : Hid (Sort.PermIn 0 n d d1) := hpm
  have HBG : Hid (Bg g w wr) := hbg
  have HO1 : Hid (∀ i, i < d1.size → ok d1[i]!) := ok_perm (by omega) hpm HOK.out
  have HW1 : Hid (Below w0.heap.size w0 wr) := below_bg hg HW.out hbg
  clear hu hpre hpm hbg
  by_cases hlt : a + 20 ≤ n
  ·have q1 : ((a + 20 : Nat) : Int) ≤ (n : Int) := by omega
   have HI1 : Hid (∀ _ : True, _) := fun _ => HI.out a (a + 20) d1 HO1.out (by omega) (by omega) (by omega) wr HU1.out hg HW1.out
   rw [S1] at HI1
   have HF : Hid (Sort.PermIn a (a + 20) d1 (Sort.insertionSort (ltK K) d1 a (a + 20)) ∧ Srt K a (a + 20) (Sort.insertionSort (ltK K) d1 a (a + 20))) := ins_key K d1 a (a + 20) (by omega) (by omega)
   obtain ⟨b, hb⟩ : ∃ b, a + 20 = b := ⟨_, rfl⟩
   rw [hb] at HI1 HF q1 ⊢
   clear HI
   go_wp2_with fail
   refine (HI1.out trivial).mono ?_
   rintro e w1 ⟨rfl, u2, b2⟩
   have q2 : IntKind.i64.wrap ((b : Int) + 20) = ((b + 20 : Nat) : Int) := by rw [wrap_i64 (by omega) (by omega)]; omega
   generalize Sort.insertionSort (ltK K) d1 a b = d2 at u2 HF
   have HE : Hid (Ur w1 g z d2 ∧ Pre K 20 (q + 1) d2 ∧ Sort.PermIn 0 n d d2 ∧ Bg g w w1) := ⟨u2, HPR.out.snoc HQ.out (fun k hk => HF.out.1.2.1 k (by omega)) (by rw [hb]; exact HF.out.2), Sort.permIn_trans _ _ _ _ _ HPM.out (Sort.permIn_mono _ _ _ _ _ _ (by omega) (by omega) (by omega) HF.out.1), HBG.out.trans b2⟩
   clear u2 b2 HI1 HF
   go_wp2_with fail
   go_roundw
   case rel => exact ⟨q + 1, b, b + 20, d2, rfl, by go_num, by have := HQ.out; omega, HE.out⟩
   case measure => simp [natOf]; omega
  ·have q1 : ¬ ((a + 20 : Nat) : Int) ≤ (n : Int) := by omega
   have HI1 : Hid (∀ _ : True, _) := fun _ => HI.out a n d1 HO1.out (by omega) (by omega) (by omega) wr HU1.out hg HW1.out
   rw [S1] at HI1
   have HF : Hid (Sort.PermIn a n d1 (Sort.insertionSort (ltK K) d1 a n) ∧ Srt K a n (Sort.insertionSort (ltK K) d1 a n)) := ins_key K d1 a n (by omega) (by omega)
   obtain ⟨b, hb⟩ : ∃ b, a + 20 = b := ⟨_, rfl⟩
   rw [hb] at q1 ⊢
   clear HI
   go_wp2_with fail
   refine (HI1.out trivial).mono ?_
   rintro e w1 ⟨rfl, u2, b2⟩
   generalize Sort.insertionSort (ltK K) d1 a n = d2 at u2 HF
   have HE : Hid (Ur w1 g z d2 ∧ Suf K 20 0 n d2 ∧ Sort.PermIn 0 n d d2 ∧ Bg g w w1) := ⟨u2, HPR.out.suf HQ.out (by omega) (fun k hk => HF.out.1.2.1 k (by omega)) HF.out.2, Sort.permIn_trans _ _ _ _ _ HPM.out (Sort.permIn_mono _ _ _ _ _ _ (by omega) (by omega) (by omega) HF.out.1), HBG.out.trans b2⟩
   clear u2 b2 HI1 HF HPR HPM HBG HO1 HW1 HU1 q1 hlt hb HQ han S1
   go_wp2_with fail
   go_loopw [6] (fun sv wr => ∃ (s : Nat) (d1 : Array Pc), sv = .int .i64 (s : Int) ∧ (0 < s ∧ (s = 20 ∨ s < 2 * n)) ∧ Ur wr g z d1 ∧ Suf K s 0 n d1 ∧ Sort.PermIn 0 n d d1 ∧ Bg g w wr) (fun sv _ => n - natOf sv)
   case atStart => exact ⟨20, d2, rfl, by omega, HE.out⟩
   case round =>
    obtain ⟨s, d3, rfl, ⟨hs0, hs1⟩, hu, hsuf, hpm, hbg⟩ := hrel
    clear HE
    have S3 : d3.size = n := hpm.1.trans hsz
    have HU3 : Hid (Ur wr g z d3) := hu
    have HSF : Hid (Suf K s 0 n d3) := hsuf
    have HPM : Hid (Sort.PermIn 0 n d d3) := hpm
    have HBG : Hid (Bg g w wr) := hbg
    clear hu hsuf hpm hbg
    by_cases hsn : s < n
    ·have q1 : (s : Int) < (n : Int) := by omega
     obtain ⟨S, hS⟩ : ∃ S, 2 * s = S := ⟨_, rfl⟩
     have q2 : IntKind.i64.wrap (2 * (s : Int)) = (S : Int) := by rw [wrap_i64 (by omega) (by omega)]; omega
     have q2' : IntKind.i64.wrap ((s : Int) * 2) = (S : Int) := by rw [wrap_i64 (by omega) (by omega)]; omega
     go_wp2_with fail
     go_loopw [7, 8] (fun av bv wr => ∃ (q a b : Nat) (d4 : Array Pc), av = .int .i64 (a : Int) ∧ bv = .int .i64 (b : Int) ∧ (a = q * S ∧ b = a + S ∧ a ≤ n) ∧ Ur wr g z d4 ∧ (Pre K S q d4 ∧ Suf K s a n d4) ∧ Sort.PermIn 0 n d d4 ∧ Bg g w wr) (fun _ bv _ => n + S - natOf bv)
     case atStart => exact ⟨0, 0, S, d3, rfl, rfl, by omega, HU3.out, ⟨Pre.zero _ _ _, HSF.out⟩, HPM.out, HBG.out⟩
     case round =>
      obtain ⟨q, a, b, d4, rfl, rfl, ⟨hq', hb', han⟩, hu, ⟨hpre, hsuf⟩, hpm, hbg⟩ := hrel
      have HQ : Hid (a = q * S) := hq'
      have HB : Hid (b = a + S) := hb'
      have hb1 : b ≤ a + S := by omega
      have hb2 : a + S ≤ b := by omega
      clear hq' hb'
      clear HU3 HSF HPM HBG
      have S4 : d4.size = n := hpm.1.trans hsz
      have HU4 : Hid (Ur wr g z d4) := hu
      have HPR : Hid (Pre K S q d4) := hpre
      have HSF : Hid (Suf K s a n d4) := hsuf
      have HPM : Hid (Sort.PermIn 0 n d d4) := hpm
      have HBG : Hid (Bg g w wr) := hbg
      have HO4 : Hid (∀ i, i < d4.size → ok d4[i]!) := ok_perm (by omega) hpm HOK.out
      have HW4 : Hid (Below w0.heap.size w0 wr) := below_bg hg HW.out hbg
      clear hu hpre hsuf hpm hbg
      obtain ⟨m, hm⟩ : ∃ m, a + s = m := ⟨_, rfl⟩
      have q3 : IntKind.i64.wrap ((a : Int) + (s : Int)) = (m : Int) := by rw [wrap_i64 (by omega) (by omega)]; omega
      by_cases hlt : b ≤ n
      ·have q4 : (b : Int) ≤ (n : Int) := by omega
       have q5 : IntKind.i64.wrap ((b : Int) + (S : Int)) = ((b + S : Nat) : Int) := by rw [wrap_i64 (by omega) (by omega)]; omega
       have HM1 : Hid (∀ _ : True, _) := fun _ => HM.out (b - a) a m b d4 (Nat.le_refl _) (by omega) (by omega) (by omega) (by omega) HO4.out (by have := HSF.out.head; rwa [hm, Nat.min_eq_left (by omega)] at this) (by have := HSF.out.tail.head; rwa [hm, show m + s = b by omega, Nat.min_eq_left (by omega)] at this) wr HU4.out HW4.out
       rw [S4] at HM1
       clear HM
       go_wp2_with fail
       refine (HM1.out trivial).mono ?_
       rintro e w1 ⟨rfl, d5, u5, s5, p5, b5⟩
       have HE : Hid (Ur w1 g z d5 ∧ (Pre K S (q + 1) d5 ∧ Suf K s b n d5) ∧ Sort.PermIn 0 n d d5 ∧ Bg g w w1) := ⟨u5, ⟨HPR.out.snoc HQ.out (fun k hk => p5.2.1 k (by omega)) (by rw [← HB.out]; exact s5), by have := HSF.out.tail.tail; rw [show a + s + s = b by omega] at this; exact this.congr fun k hk => p5.2.1 k (by omega)⟩, Sort.permIn_trans _ _ _ _ _ HPM.out (Sort.permIn_mono _ _ _ _ _ _ (by omega) (by omega) (by omega) p5), HBG.out.trans b5⟩
       clear u5 s5 p5 b5 HM1
       go_wp2_with fail
       go_roundw
       case rel => exact ⟨q + 1, b, b + S, d5, rfl, by go_num, by rw [Nat.succ_mul]; have := HQ.out; omega, HE.out⟩
       case measure => simp [natOf]; omega
      ·have q4 : ¬ (b : Int) ≤ (n : Int) := by omega
       by_cases hmn : m < n
       ·have q5 : (m : Int) < (n : Int) := by omega
        have HM1 : Hid (∀ _ : True, _) := fun _ => HM.out (n - a) a m n d4 (Nat.le_refl _) (by omega) (by omega) (by omega) (by omega) HO4.out (by have := HSF.out.head; rwa [hm, Nat.min_eq_left (by omega)] at this) (by have := HSF.out.tail.head; rwa [hm, show m + s = b by omega, Nat.min_eq_right (by omega)] at this) wr HU4.out HW4.out
        rw [S4] at HM1
        clear HM
        go_wp2_with fail
        refine (HM1.out trivial).mono ?_
        rintro e w1 ⟨rfl, d5, u5, s5, p5, b5⟩
        have HE : Hid (Ur w1 g z d5 ∧ Suf K S 0 n d5 ∧ Sort.PermIn 0 n d d5 ∧ Bg g w w1) := ⟨u5, HPR.out.suf HQ.out (by omega) (fun k hk => p5.2.1 k (by omega)) s5, Sort.permIn_trans _ _ _ _ _ HPM.out (Sort.permIn_mono _ _ _ _ _ _ (by omega) (by omega) (by omega) p5), HBG.out.trans b5⟩
        clear u5 s5 p5 b5 HM1
        go_wp2_with fail
        go_roundw
        case rel => exact ⟨S, d5, by go_num, by omega, HE.out⟩
        case measure => simp [natOf]; omega
       ·have q5 : ¬ (m : Int) < (n : Int) := by omega
        have HE : Hid (Ur wr g z d4 ∧ Suf K S 0 n d4 ∧ Sort.PermIn 0 n d d4 ∧ Bg g w wr) := ⟨HU4.out, HPR.out.suf HQ.out (by omega) (fun k hk => rfl) (by have := HSF.out.head; rwa [hm, Nat.min_eq_right (by omega)] at this), HPM.out, HBG.out⟩
        clear HM
        go_wp2_with fail
        go_roundw
        case rel => exact ⟨S, d4, by go_num, by omega, HE.out⟩
        case measure => simp [natOf]; omega
    ·have q1 : ¬ (s : Int) < (n : Int) := by omega
     go_wp2_with fail
     refine bodyPost_end (results_none rfl _ _ _) rfl ?_
     refine ⟨rfl, d3, HU3.out, ?_, HPM.out, HBG.out⟩
     have := HSF.out.head
     rwa [Nat.zero_add, Nat.min_eq_right (by omega)] at this
theorem perm_list {l : List Pc} {d' : Array Pc} (h : Sort.PermIn 0 l.length l.toArray d') : d'.toList.Perm l := by
 obtain ⟨h1, -, h3⟩ := h
 have e1 : d'.extract 0 l.length = d' := by
  have : l.length = d'.size := by rw [h1]; simp
  rw [this]; simp
 rw [e1] at h3
 simpa using h3
theorem srt_list {K : Pc → Nat} {n : Nat} {d' : Array Pc} (hn : d'.size = n) (h : Srt K 0 n d') : d'.toList.Pairwise fun a b => K a ≤ K b := by
 rw [List.pairwise_iff_getElem]
 intro i j hi hj hij
 have hi' : i < d'.size := by simpa using hi
 have hj' : j < d'.size := by simpa using hj
 have := h i j (by omega) hij (by omega)
 rw [getElem!_pos d' i hi', getElem!_pos d' j hj'] at this
 simpa using this
set_option maxRecDepth 100000 in
set_option maxHeartbeats 1000000 in
theorem stable_nil (sv : Value) (cf : Nat) (cb : Array Value) (w : World) :
  Calls Try.prog 90 #[sv, .int .i64 0, .func (.func cf) #[] cb] w fun e w' => e = .returned (.tuple #[]) ∧ Below w.heap.size w w' := by
 have HI : Hid (∀ w : World, Calls Try.prog 97 #[sv, .int .i64 0, .int .i64 0, .func (.func cf) #[] cb] w fun e w' => e = .returned (.tuple #[]) ∧ w' = w) := by
  refine (?_ : ∀ w : World, _)
  intro w
  go_enter Try.func97, Try.ntmps97
  go_wp2_with fail
  refine wp_loop_rounds 1 ?_
  rw [rounds_succ]
  go_wp2_with fail
  refine bodyPost_end (results_none rfl _ _ _) rfl ?_
  exact ⟨rfl, rfl⟩
 go_enter Try.func90, Try.ntmps90
 go_wp2_with fail
 refine wp_loop_rounds 1 ?_
 rw [rounds_succ]
 go_wp2_with fail
 refine (HI.out _).mono ?_
 rintro e w1 ⟨rfl, rfl⟩
 go_wp2_with fail
 refine wp_loop_rounds 1 ?_
 rw [rounds_succ]
 go_wp2_with fail
 refine bodyPost_end (results_none rfl _ _ _) rfl ?_
 exact ⟨rfl, Below.refl _ _⟩
def Sorts (K : Pc → Nat) (base : Nat) (v : Value) (l : List Pc) (w w' : World) : Prop :=
 ∃ m : List Pc, m.Perm l ∧ (m.Pairwise fun a b => K a ≤ K b) ∧ w'.ownsRow base 87 2 v m.length (m.flatMap pcs) ∧ But (fun k => v.ownBlock = some k) w w'
set_option maxRecDepth 100000 in
theorem stable_own (w0 : World) (ok : Pc → Prop) (K : Pc → Nat) (cf : Nat) (cb : Array Value) (hC : Cmp w0 ok (ltK K) cf cb) (base : Nat) (hg : w0.heap.size ≤ base) (l : List Pc) (hl : l.length ≤ 1000000) (hok : ∀ r, r ∈ l → ok r) (v : Value) (w : World) (h : w.ownsRow base 87 2 v l.length (l.flatMap pcs)) (hw : Below w0.heap.size w0 w) (_ : base ≤ w.heap.size) :
  Calls Try.prog 90 #[v, .int .i64 (l.length : Int), .func (.func cf) #[] cb] w fun e w' => e = .returned (.tuple #[]) ∧ Sorts K base v l w w' := by
 by_cases hnil : l = []
 ·subst hnil
  refine (stable_nil v cf cb w).mono ?_
  rintro e w' ⟨rfl, b⟩
  refine ⟨rfl, [], List.Perm.refl _, List.Pairwise.nil, ?_, But.of_below b⟩
  rcases h.2 with ⟨rfl, -⟩ | ⟨g, cap, cur, rfl, h2, h3, h4⟩
  ·exact ⟨rfl, .inl ⟨rfl, rfl⟩⟩
  ·exact ⟨rfl, .inr ⟨g, cap, cur, rfl, h2, (b.block g (Array.getElem?_eq_some_iff.1 h3).1).trans h3, h4⟩⟩
 ·obtain ⟨g, cap, rfl, hgb, hu⟩ := ur_of_own h hnil
  have hs : l.toArray.size = l.length := by simp
  have hX := stableR_any w0 ok K cf cb hC g (cap * 2) cap (by omega) l.toArray (by omega) (fun i hi => hok _ (by rw [getElem!_pos l.toArray i hi]; simp)) w hu hw
  rw [hs] at hX
  refine hX.mono ?_
  rintro e w' ⟨rfl, d', u', s', p', b'⟩
  have hd' : d'.size = l.length := by rw [p'.1, hs]
  have hm : d'.toList.length = l.length := by simpa using hd'
  refine ⟨rfl, d'.toList, perm_list p', srt_list hd' s', ?_, ?_⟩
  ·have := own_of_ur h (m := d'.toList) (by simpa using u') hm
   rwa [hm] at this ⊢
  ·exact b'.more fun k _ hk => by subst hk; rfl
set_option maxRecDepth 100000 in
theorem own_slice {w : World} {base n : Nat} {v : Value} {xs : List Value} (h : w.ownsRow base 87 2 v n xs) : ∃ po cap, v = .slice po n cap := by
 rcases h.2 with ⟨rfl, rfl⟩ | ⟨g, cap, cur, rfl, -⟩
 ·exact ⟨_, _, rfl⟩
 ·exact ⟨_, _, rfl⟩
set_option maxRecDepth 100000 in
set_option maxHeartbeats 1000000 in
theorem sortR_any (w0 : World) (ok : Pc → Prop) (K : Pc → Nat) (cf : Nat) (cb : Array Value) (hC : Cmp w0 ok (ltK K) cf cb) (base : Nat) (hg : w0.heap.size ≤ base) (l : List Pc) (hl : l.length ≤ 1000000) (hok : ∀ r, r ∈ l → ok r) (v : Value) (w : World) (h : w.ownsRow base 87 2 v l.length (l.flatMap pcs)) (hw : Below w0.heap.size w0 w) (_ : base ≤ w.heap.size) :
  Calls Try.prog 79 #[v, .func (.func cf) #[] cb] w fun e w' => e = .returned (.tuple #[]) ∧ Sorts K base v l w w' := by
 have HC : Hid (∀ _ : True, _) := fun _ => stable_own w0 ok K cf cb hC base hg l hl hok v w h hw (by assumption)
 obtain ⟨po, cap, rfl⟩ := own_slice h
 clear hC hg hok h hw
 obtain ⟨n, hn⟩ : ∃ n, l.length = n := ⟨_, rfl⟩
 rw [hn] at HC ⊢
 have q1 : (n : Int) ≤ 1000000 := by omega
 clear hn hl
 go_enter Try.func79, Try.ntmps79
 go_wp2_with fail
 refine Calls.mono (HC.out trivial) ?_
 rintro e w1 ⟨rfl, h1⟩
 have HS : Hid _ := h1
 clear h1 HC
 go_wp2_with fail
 refine bodyPost_end (results_none rfl _ _ _) rfl ?_
 exact ⟨rfl, HS.out⟩
end Go.Proofs.Ytimdlohdmddnjaa.Rq.Pz
/- How rows are compared by Near: the nearer ones ahead, of those that are as far the lesser ids. -/
namespace Go.Proofs.Ytimdlohdmddnjaa.Rq
open Go.RowKit Go.Lib Go.Shelf
open Go.Proofs.Ytimdlohdmddnjaa.Rc
def nkey (x y M : Nat) (r : Rw) : Nat := Rq.dist r.x r.y x y * M + r.id
def nok (M : Nat) (r : Rw) : Prop := r.id < M ∧ r.x < 2147483648 ∧ r.y < 2147483648
theorem key_lt {p q i j M : Nat} (hi : i < M) (hj : j < M) : p * M + i < q * M + j ↔ p < q ∨ (p = q ∧ i < j) := by
 rcases Nat.lt_trichotomy p q with h | h | h
 ·have := Nat.mul_le_mul_right M (show p + 1 ≤ q from h)
  rw [Nat.succ_mul] at this
  constructor
  ·intro _; exact .inl h
  ·intro _; omega
 ·subst h
  constructor
  ·intro _; exact .inr ⟨rfl, by omega⟩
  ·intro _; omega
 ·have := Nat.mul_le_mul_right M (show q + 1 ≤ p from h)
  rw [Nat.succ_mul] at this
  constructor
  ·intro _; omega
  ·intro _; omega
set_option maxRecDepth 100000 in
theorem or_key (p q i j M : Nat) (hi : i < M) (hj : j < M) : decide (orS (cmpS p q) (cmpS i j) < 0) = decide (p * M + i < q * M + j) := by
 rw [decide_eq_decide, key_lt hi hj]
 unfold orS cmpS
 rcases Nat.lt_trichotomy p q with h | h | h
 ·simp [h]
 ·subst h
  simp
  rcases Nat.lt_trichotomy i j with h2 | h2 | h2
  ·simp [h2]
  ·subst h2; simp
  ·have : ¬ i < j := by omega
   simp [h2, this]
 ·have h1 : ¬ p < q := by omega
  have h2 : ¬ p = q := by omega
  simp [h, h1, h2]
structure Pt2 (w : World) (g1 g2 x y : Nat) : Prop where
 x : w.heap[g1]? = some (.cells #[.int .u32 (x : Int)] 22 (0, 0))
 y : w.heap[g2]? = some (.cells #[.int .u32 (y : Int)] 22 (0, 0))
set_option maxRecDepth 100000 in
theorem Pt2.grow {w W : World} {B g1 g2 x y : Nat} (h : Pt2 w g1 g2 x y) (hW : Below B w W) (hB : w.heap.size ≤ B) : Pt2 W g1 g2 x y :=
 ⟨(hW.block _ (Nat.lt_of_lt_of_le (Array.getElem?_eq_some_iff.1 h.x).1 hB)).trans h.x, (hW.block _ (Nat.lt_of_lt_of_le (Array.getElem?_eq_some_iff.1 h.y).1 hB)).trans h.y⟩
def NS (g1 g2 ga gb x y i a b : Nat) (v : ByteArray) (j c d : Nat) (u : ByteArray) (w : World) : Prop :=
 (w.cell? ⟨g1, 0, none⟩ = some (.int .u32 (x : Int)) ∧ w.cell? ⟨g2, 0, none⟩ = some (.int .u32 (y : Int))) ∧
 (w.cell? ⟨ga, 0, none⟩ = some (.int .u64 (i : Int)) ∧ w.cell? ⟨ga, 1, none⟩ = some (.int .u32 (a : Int)) ∧ w.cell? ⟨ga, 2, none⟩ = some (.int .u32 (b : Int)) ∧ w.cell? ⟨ga, 3, none⟩ = some (.string v)) ∧
 (w.cell? ⟨gb, 0, none⟩ = some (.int .u64 (j : Int)) ∧ w.cell? ⟨gb, 1, none⟩ = some (.int .u32 (c : Int)) ∧ w.cell? ⟨gb, 2, none⟩ = some (.int .u32 (d : Int)) ∧ w.cell? ⟨gb, 3, none⟩ = some (.string u))
set_option maxRecDepth 100000 in
theorem NS.same {g1 g2 ga gb x y i a b : Nat} {v : ByteArray} {j c d : Nat} {u : ByteArray} {w w' : World} (h : NS g1 g2 ga gb x y i a b v j c d u w) (e1 : w'.heap[g1]? = w.heap[g1]?) (e2 : w'.heap[g2]? = w.heap[g2]?) (e3 : w'.heap[ga]? = w.heap[ga]?) (e4 : w'.heap[gb]? = w.heap[gb]?) : NS g1 g2 ga gb x y i a b v j c d u w' := by
 obtain ⟨⟨h1, h2⟩, ⟨h3, h4, h5, h6⟩, h7, h8, h9, h10⟩ := h
 exact ⟨⟨(World.cell?_of_block (a := ⟨g1, 0, none⟩) e1).trans h1, (World.cell?_of_block (a := ⟨g2, 0, none⟩) e2).trans h2⟩,
  ⟨(World.cell?_of_block (a := ⟨ga, 0, none⟩) e3).trans h3, (World.cell?_of_block (a := ⟨ga, 1, none⟩) e3).trans h4, (World.cell?_of_block (a := ⟨ga, 2, none⟩) e3).trans h5, (World.cell?_of_block (a := ⟨ga, 3, none⟩) e3).trans h6⟩,
  (World.cell?_of_block (a := ⟨gb, 0, none⟩) e4).trans h7, (World.cell?_of_block (a := ⟨gb, 1, none⟩) e4).trans h8, (World.cell?_of_block (a := ⟨gb, 2, none⟩) e4).trans h9, (World.cell?_of_block (a := ⟨gb, 3, none⟩) e4).trans h10⟩
structure NW (w W : World) (g1 g2 ga gb x y i a b : Nat) (v : ByteArray) (j c d : Nat) (u : ByteArray) : Prop where
 ns : NS g1 g2 ga gb x y i a b v j c d u W
 bel : Below w.heap.size w W
 l1 : g1 < W.heap.size
 l2 : g2 < W.heap.size
 l3 : ga < W.heap.size
 l4 : gb < W.heap.size
set_option maxRecDepth 100000 in
theorem NW.grow {w W W' : World} {g1 g2 ga gb x y i a b : Nat} {v : ByteArray} {j c d : Nat} {u : ByteArray} (h : NW w W g1 g2 ga gb x y i a b v j c d u) (hb : Below W.heap.size W W') : NW w W' g1 g2 ga gb x y i a b v j c d u :=
 ⟨h.ns.same (hb.block _ h.l1) (hb.block _ h.l2) (hb.block _ h.l3) (hb.block _ h.l4), h.bel.trans (hb.mono h.bel.size), Nat.lt_of_lt_of_le h.l1 hb.size, Nat.lt_of_lt_of_le h.l2 hb.size, Nat.lt_of_lt_of_le h.l3 hb.size, Nat.lt_of_lt_of_le h.l4 hb.size⟩
set_option maxRecDepth 100000 in
set_option maxHeartbeats 8000000 in
theorem near1_any (ra rb : Rw) (g1 g2 x y : Nat) (hra : ra.x < 2147483648 ∧ ra.y < 2147483648) (hrb : rb.x < 2147483648 ∧ rb.y < 2147483648) (hx : x < 2147483648) (hy : y < 2147483648) (w : World) (hp : Pt2 w g1 g2 x y) :
  Calls Try.prog 44 #[rv ra, rv rb, .pointer (some ⟨g1, 0, none⟩), .pointer (some ⟨g2, 0, none⟩)] w fun e w' => e = .returned (.int .i64 (orS (cmpS (Rq.dist ra.x ra.y x y) (Rq.dist rb.x rb.y x y)) (cmpS ra.id rb.id))) ∧ Below w.heap.size w w' := by
 obtain ⟨i, a, b, v⟩ := ra
 obtain ⟨j, c, d, u⟩ := rb
 have HF1 : Hid _ := qfar_any i a b v x y hra.1 hra.2 hx hy
 have HF2 : Hid _ := qfar_any j c d u x y hrb.1 hrb.2 hx hy
 obtain ⟨p, hpd⟩ : ∃ p, Rq.dist a b x y = p := ⟨_, rfl⟩
 obtain ⟨q, hqd⟩ : ∃ q, Rq.dist c d x y = q := ⟨_, rfl⟩
 have HC1 : Hid _ := compare_any p q
 have HC2 : Hid _ := compare_any i j
 simp only [rv] at HF1 HF2 ⊢
 rw [hpd] at HF1 ⊢
 rw [hqd] at HF2 ⊢
 obtain ⟨z1, hz1⟩ : ∃ z1, cmpS p q = z1 := ⟨_, rfl⟩
 obtain ⟨z2, hz2⟩ : ∃ z2, cmpS i j = z2 := ⟨_, rfl⟩
 rw [hz1] at HC1 ⊢
 rw [hz2] at HC2 ⊢
 obtain ⟨y1, y2, y3⟩ := two_new w (.cells #[.int .u64 (i : Int), .int .u32 (a : Int), .int .u32 (b : Int), .string v] 54) (.cells #[.int .u64 (j : Int), .int .u32 (c : Int), .int .u32 (d : Int), .string u] 54)
 obtain ⟨W1, hW1⟩ : ∃ W1, (w.alloc (.cells #[.int .u64 (i : Int), .int .u32 (a : Int), .int .u32 (b : Int), .string v] 54)).alloc (.cells #[.int .u64 (j : Int), .int .u32 (c : Int), .int .u32 (d : Int), .string u] 54) = W1 := ⟨_, rfl⟩
 rw [hW1] at y1 y2 y3
 have hp1 := hp.grow y3 (Nat.le_refl _)
 have HW1 : Hid _ := hW1
 have HN0 : Hid (NW w W1.drew g1 g2 w.heap.size (w.heap.size + 1) x y i a b v j c d u) := ⟨⟨⟨by rw [World.cell?_of_block (a := ⟨g1, 0, none⟩) (show W1.drew.heap[g1]? = W1.heap[g1]? from rfl), cell_of_row _ _ _ _ _ _ hp1.x]; rfl, by rw [World.cell?_of_block (a := ⟨g2, 0, none⟩) (show W1.drew.heap[g2]? = W1.heap[g2]? from rfl), cell_of_row _ _ _ _ _ _ hp1.y]; rfl⟩, four_facts y1, four_facts y2⟩, y3.trans ⟨rfl, rfl, rfl, Nat.le_refl _, fun _ _ => rfl⟩, (Array.getElem?_eq_some_iff.1 hp1.x).1, (Array.getElem?_eq_some_iff.1 hp1.y).1, (Array.getElem?_eq_some_iff.1 y1).1, (Array.getElem?_eq_some_iff.1 y2).1⟩
 have HSW : Hid (NS g1 g2 w.heap.size (w.heap.size + 1) x y i a b v j c d u W1.drew) := HN0.out.ns
 clear hra hrb hx hy hpd hqd hz1 hz2 y1 y2 y3 hp1 hW1 hp
 go_enter Try.func44, Try.ntmps44
 go_wp2_with fail
 rw [HW1.out]
 clear HW1
 refine wp_region_held (S := NS g1 g2 w.heap.size (w.heap.size + 1) x y i a b v j c d u) (by kernel_rfl) ?_
 change wpAnyH _ _ _ _ _ _ _ _ (World.drew _)
 refine wpAnyH_take (i := 0) (v := ?_) rfl (by kernel_rfl) (by kernel_rfl) (by kernel_rfl) (fun _ _ _ h => h) (Or.inl ⟨by kernel_rfl, ?_⟩) HSW.out ?_
 rotate_left
 ·rintro w ⟨⟨e1,e2⟩,⟨e3,e4,e5,e6⟩,e7,e8,e9,e10⟩; go_simp; try with_reducible rfl
 conv in (Act.put _ _ _) => simp only [List.getElem_toArray, List.getElem_cons_succ, List.getElem_cons_zero, Act.put, List.setIfInBounds_toArray, List.set_cons_succ, List.set_cons_zero]
 refine wpAnyH_take (i := 1) (v := ?_) rfl (by kernel_rfl) (by kernel_rfl) (by kernel_rfl) (fun _ _ _ h => h) (Or.inl ⟨by kernel_rfl, ?_⟩) HSW.out ?_
 rotate_left
 ·rintro w ⟨⟨e1,e2⟩,⟨e3,e4,e5,e6⟩,e7,e8,e9,e10⟩; go_simp; try with_reducible rfl
 conv in (Act.put _ _ _) => simp only [List.getElem_toArray, List.getElem_cons_succ, List.getElem_cons_zero, Act.put, List.setIfInBounds_toArray, List.set_cons_succ, List.set_cons_zero]
 refine wpAnyH_take (i := 2) (v := ?_) rfl (by kernel_rfl) (by kernel_rfl) (by kernel_rfl) (fun _ _ _ h => h) (Or.inl ⟨by kernel_rfl, ?_⟩) HSW.out ?_
 rotate_left
 ·rintro w ⟨⟨e1,e2⟩,⟨e3,e4,e5,e6⟩,e7,e8,e9,e10⟩; go_simp; try with_reducible rfl
 conv in (Act.put _ _ _) => simp only [List.getElem_toArray, List.getElem_cons_succ, List.getElem_cons_zero, Act.put, List.setIfInBounds_toArray, List.set_cons_succ, List.set_cons_zero]
 refine wpAnyH_take (i := 4) (v := ?_) rfl (by kernel_rfl) (by kernel_rfl) (by kernel_rfl) (fun _ _ _ h => h) (Or.inl ⟨by kernel_rfl, ?_⟩) HSW.out ?_
 rotate_left
 ·rintro w ⟨⟨e1,e2⟩,⟨e3,e4,e5,e6⟩,e7,e8,e9,e10⟩; go_simp; try with_reducible rfl
 conv in (Act.put _ _ _) => simp only [List.getElem_toArray, List.getElem_cons_succ, List.getElem_cons_zero, Act.put, List.setIfInBounds_toArray, List.set_cons_succ, List.set_cons_zero]
 refine wpAnyH_take (i := 5) (v := ?_) rfl (by kernel_rfl) (by kernel_rfl) (by kernel_rfl) (fun _ _ _ h => h) (Or.inl ⟨by kernel_rfl, ?_⟩) HSW.out ?_
 rotate_left
 ·rintro w ⟨⟨e1,e2⟩,⟨e3,e4,e5,e6⟩,e7,e8,e9,e10⟩; go_simp; try with_reducible rfl
 conv in (Act.put _ _ _) => simp only [List.getElem_toArray, List.getElem_cons_succ, List.getElem_cons_zero, Act.put, List.setIfInBounds_toArray, List.set_cons_succ, List.set_cons_zero]
 refine wpAnyH_take (i := 6) (v := ?_) rfl (by kernel_rfl) (by kernel_rfl) (by kernel_rfl) (fun _ _ _ h => h) (Or.inl ⟨by kernel_rfl, ?_⟩) HSW.out ?_
 rotate_left
 ·rintro w ⟨⟨e1,e2⟩,⟨e3,e4,e5,e6⟩,e7,e8,e9,e10⟩; go_simp; try with_reducible rfl
 conv in (Act.put _ _ _) => simp only [List.getElem_toArray, List.getElem_cons_succ, List.getElem_cons_zero, Act.put, List.setIfInBounds_toArray, List.set_cons_succ, List.set_cons_zero]
 refine wpAnyH_take (i := 9) (v := ?_) rfl (by kernel_rfl) (by kernel_rfl) (by kernel_rfl) (fun _ _ _ h => h) (Or.inl ⟨by kernel_rfl, ?_⟩) HSW.out ?_
 rotate_left
 ·rintro w ⟨⟨e1,e2⟩,⟨e3,e4,e5,e6⟩,e7,e8,e9,e10⟩; go_simp; try with_reducible rfl
 conv in (Act.put _ _ _) => simp only [List.getElem_toArray, List.getElem_cons_succ, List.getElem_cons_zero, Act.put, List.setIfInBounds_toArray, List.set_cons_succ, List.set_cons_zero]
 refine wpAnyH_take (i := 10) (v := ?_) rfl (by kernel_rfl) (by kernel_rfl) (by kernel_rfl) (fun _ _ _ h => h) (Or.inl ⟨by kernel_rfl, ?_⟩) HSW.out ?_
 rotate_left
 ·rintro w ⟨⟨e1,e2⟩,⟨e3,e4,e5,e6⟩,e7,e8,e9,e10⟩; go_simp; try with_reducible rfl
 conv in (Act.put _ _ _) => simp only [List.getElem_toArray, List.getElem_cons_succ, List.getElem_cons_zero, Act.put, List.setIfInBounds_toArray, List.set_cons_succ, List.set_cons_zero]
 refine wpAnyH_take (i := 11) (v := ?_) rfl (by kernel_rfl) (by kernel_rfl) (by kernel_rfl) (fun _ _ _ h => h) (Or.inl ⟨by kernel_rfl, ?_⟩) HSW.out ?_
 rotate_left
 ·rintro w ⟨⟨e1,e2⟩,⟨e3,e4,e5,e6⟩,e7,e8,e9,e10⟩; go_simp; try with_reducible rfl
 conv in (Act.put _ _ _) => simp only [List.getElem_toArray, List.getElem_cons_succ, List.getElem_cons_zero, Act.put, List.setIfInBounds_toArray, List.set_cons_succ, List.set_cons_zero]
 refine wpAnyH_take (i := 12) (v := ?_) rfl (by kernel_rfl) (by kernel_rfl) (by kernel_rfl) (fun _ _ _ h => h) (Or.inl ⟨by kernel_rfl, ?_⟩) HSW.out ?_
 rotate_left
 ·rintro w ⟨⟨e1,e2⟩,⟨e3,e4,e5,e6⟩,e7,e8,e9,e10⟩; go_simp; try with_reducible rfl
 conv in (Act.put _ _ _) => simp only [List.getElem_toArray, List.getElem_cons_succ, List.getElem_cons_zero, Act.put, List.setIfInBounds_toArray, List.set_cons_succ, List.set_cons_zero]
 refine readyH 3 _ (by kernel_rfl) rfl (by kernel_rfl) (fun K hK => ?_)
 go_simp
 refine (HF1.out _).mono ?_
 rintro e w1 ⟨rfl, b1⟩
 have N1 : Hid (NW w w1 g1 g2 w.heap.size (w.heap.size + 1) x y i a b v j c d u) := HN0.out.grow b1
 have HSW : Hid (NS g1 g2 w.heap.size (w.heap.size + 1) x y i a b v j c d u w1) := N1.out.ns
 clear b1
 refine hK _ _ HSW.out ?_
 clear hK K
 refine readyH 7 _ (by kernel_rfl) rfl (by kernel_rfl) (fun K hK => ?_)
 go_simp
 refine (HF2.out _).mono ?_
 rintro e w2 ⟨rfl, b2⟩
 have N2 : Hid (NW w w2 g1 g2 w.heap.size (w.heap.size + 1) x y i a b v j c d u) := N1.out.grow b2
 have HSW : Hid (NS g1 g2 w.heap.size (w.heap.size + 1) x y i a b v j c d u w2) := N2.out.ns
 clear b2
 refine hK _ _ HSW.out ?_
 clear hK K
 refine readyH 8 _ (by kernel_rfl) rfl (by kernel_rfl) (fun K hK => ?_)
 go_simp
 refine (HC1.out _).mono ?_
 rintro e w3 ⟨rfl, hw3⟩
 have hw' := hw3.symm
 clear hw3
 subst hw'
 refine hK _ _ HSW.out ?_
 clear hK K
 refine readyH 13 _ (by kernel_rfl) rfl (by kernel_rfl) (fun K hK => ?_)
 go_simp
 refine (HC2.out _).mono ?_
 rintro e w4 ⟨rfl, hw4⟩
 have hw' := hw4.symm
 clear hw4
 subst hw'
 refine hK _ _ HSW.out ?_
 clear hK K
 have HT : Hid (NW w w2 g1 g2 w.heap.size (w.heap.size + 1) x y i a b v j c d u) := N2.out
 refine readyH 14 _ (by kernel_rfl) rfl (by kernel_rfl) (fun K hK => ?_)
 go_simp
 have hbn := below_new w2 (.cells #[.int .i64 z1, .int .i64 z2] 3)
 have hgn := heap_alloc_new w2 (.cells #[.int .i64 z1, .int .i64 z2] 3)
 have HT2 : Hid (NW w (w2.alloc (.cells #[.int .i64 z1, .int .i64 z2] 3)) g1 g2 w.heap.size (w.heap.size + 1) x y i a b v j c d u) := HT.out.grow hbn
 have HOR : Hid (∀ _ : True, _) := fun _ => or_any z1 z2 w2.heap.size (w2.alloc (.cells #[.int .i64 z1, .int .i64 z2] 3)) (by rw [cell_of_row _ _ _ _ _ _ hgn]; rfl) (by rw [cell_of_row _ _ _ _ _ _ hgn]; rfl)
 have HSW : Hid (NS g1 g2 w.heap.size (w.heap.size + 1) x y i a b v j c d u (w2.alloc (.cells #[.int .i64 z1, .int .i64 z2] 3))) := HT2.out.ns
 clear hbn hgn
 refine hK _ _ HSW.out ?_
 clear hK K
 refine readyH 15 _ (by kernel_rfl) rfl (by kernel_rfl) (fun K hK => ?_)
 go_simp
 refine Calls.mono (HOR.out trivial) ?_
 rintro e wz ⟨rfl, hwz⟩
 have hwz' := hwz.symm
 clear hwz
 subst hwz'
 refine hK _ _ HSW.out ?_
 clear hK K
 refine wpAnyH_take (i := 16) (v := ?_) rfl (by kernel_rfl) (by kernel_rfl) (by kernel_rfl) (fun _ _ _ h => h) (Or.inl ⟨by kernel_rfl, ?_⟩) HSW.out ?_
 rotate_left
 ·rintro w ⟨⟨e1,e2⟩,⟨e3,e4,e5,e6⟩,e7,e8,e9,e10⟩; go_simp; try with_reducible rfl
 conv in (Act.put _ _ _) => simp only [List.getElem_toArray, List.getElem_cons_succ, List.getElem_cons_zero, Act.put, List.setIfInBounds_toArray, List.set_cons_succ, List.set_cons_zero]
 refine wpAnyH_done (by kernel_rfl) ?_ _
 go_wp2_with fail
 go_ret
 exact ⟨rfl, HT2.out.bel⟩
set_option maxRecDepth 100000 in
theorem cmp_near (w0 : World) (g1 g2 x y M : Nat) (hx : x < 2147483648) (hy : y < 2147483648) (hp : Pt2 w0 g1 g2 x y) : Cmp w0 (nok M) (ltK (nkey x y M)) 44 #[.pointer (some ⟨g1, 0, none⟩), .pointer (some ⟨g2, 0, none⟩)] :=
 ⟨fun _ _ => rfl, fun W hW a b ha hb => (near1_any a b g1 g2 x y ha.2 hb.2 hx hy W (hp.grow hW (Nat.le_refl _))).mono fun _ _ ⟨h1, h2⟩ => ⟨_, h1, or_key _ _ _ _ M ha.1 hb.1, h2⟩⟩
open Pz (Pc pcs pv)
attribute [local go_sem] Oper.semAt_some
set_option maxRecDepth 100000 in
theorem infoPiece : (Try.prog.info? 87).map (fun i => (i.zero, i.size, i.bytes)) = some (some (.agg #[.int .u64 0, .slice none 0 0]), 2, 32) := by kernel_rfl
set_option maxRecDepth 100000 in
theorem one_piece {w : World} {g : Nat} {r : Pc} {t : TypeId} {fr : Nat × Nat} (h : w.heap[g]? = some (.cells #[.int .u64 (r.aw : Int), .slice r.ro r.rn r.rc] t fr)) : Sl 2 w (some ⟨g, 0, none⟩) 1 1 (pcs r) := by
 refine ⟨Nat.le_refl _, by decide, (fun e => by cases e), rfl, fun _ => ⟨g, 0, rfl, (Array.getElem?_eq_some_iff.1 h).1, fun j u hu => ?_⟩⟩
 rw [Nat.zero_add, cell_of_row _ _ _ _ _ _ h]
 have : j < 2 := (List.getElem?_eq_some_iff.1 hu).1
 obtain rfl | rfl : j = 0 ∨ j = 1 := by omega
 all_goals exact hu
theorem pcs_one (r : Pc) : ∀ u ∈ pcs r, u.oneCell' = true := by
 intro u hu
 simp [pcs] at hu
 rcases hu with rfl | rfl <;> rfl
theorem away_le {x y : Nat} (hxy : onS x y = true) {m : List Rw} (ho : On m) {r : Rw} (hr : r ∈ m) : (fars (cx m) (cy m) (lev m : Int) x y).1 ≤ Rq.dist r.x r.y x y := by
 have hh := lev_has ho hr
 have hc := hasS_right hh
 have c := (rightS_nat _ _ _).1 hc
 have hf : fars (cx m) (cy m) (lev m : Int) x y = (farS (cx m) (cy m) (lev m) x y, 0) := by unfold fars; rw [if_pos ⟨hc, hxy⟩, Int.toNat_natCast]
 have h1 := far_le x y c hh
 rw [← dist_two] at h1
 rw [hf]
 exact h1
structure PA (w : World) (x y : Nat) (a : Pc × List Rw) : Prop where
 len : a.1.rn = a.2.length
 pos : 0 < a.2.length
 rows : RowsAt w a.1.ro a.1.rc a.2
 far : ∀ r ∈ a.2, a.1.aw ≤ Rq.dist r.x r.y x y
structure PJ (w : World) (x y : Nat) (vs : List (List Rw)) (own : Nat → Prop) (t : Nat) (W : World) : Prop where
 rows : ∃ v ps, W.heap[w.heap.size]? = some (.cells #[v] 84 (0, 0)) ∧ W.ownsRow (w.heap.size + 1) 87 2 v ps.length (ps.flatMap pcs) ∧ (∀ b, v.ownBlock = some b → own b) ∧ ∃ L : List (Pc × List Rw), L.map Prod.fst = ps ∧ (∀ a ∈ L, PA w x y a) ∧ L.flatMap Prod.snd = seqs (fun _ => true) (vs.take t)
 bel : Below w.heap.size w W
 mine : own w.heap.size
 least : ∀ j, own j → w.heap.size ≤ j
set_option maxRecDepth 100000 in
theorem PJ.kw {w : World} {x y : Nat} {vs : List (List Rw)} {own : Nat → Prop} {t B : Nat} {W W' : World} (h : PJ w x y vs own t W) (hk : Kw B own W W') (hB : w.heap.size ≤ B) : PJ w x y vs own t W' := by
 obtain ⟨v, ps, h1, h2, h3, h4⟩ := h.rows
 exact ⟨⟨v, ps, (hk.block _ (Array.getElem?_eq_some_iff.1 h1).1 (.inr h.mine)).trans h1, own_same h2 fun b hb hlt => hk.block b hlt (.inr (h3 b hb)), h3, h4⟩, h.bel.trans ⟨hk.os, hk.tape, hk.output, hk.size, fun j hj => hk.block j (Nat.lt_of_lt_of_le hj h.bel.size) (.inl (by omega))⟩, h.mine, h.least⟩
set_option maxRecDepth 100000 in
theorem pieces1_any (a b : Pc) (w : World) : Calls Try.prog 80 #[pv a, pv b] w fun e w' => e = .returned (.int .i64 (cmpS a.aw b.aw)) ∧ Below w.heap.size w w' := by
 obtain ⟨i, x, y, v⟩ := a
 obtain ⟨j, s, t, u⟩ := b
 have HC : Hid _ := compare_any i j
 simp only [pv]
 generalize cmpS i j = c at *
 go_enter Try.func80, Try.ntmps80
 go_wp2_with fail
 refine (HC.out _).mono ?_
 rintro e w1 ⟨rfl, rfl⟩
 go_wp2_with fail
 go_ret
 exact ⟨rfl, (below_new w _).alloc (by simp) _⟩
set_option maxRecDepth 100000 in
theorem cmp_pieces (w0 : World) : Pz.Cmp w0 (fun _ => True) (Pz.ltK Pc.aw) 80 #[] :=
 ⟨fun _ _ => rfl, fun W _ a b _ _ => (pieces1_any a b W).mono fun e W' ⟨h1, h2⟩ => ⟨_, h1, by unfold cmpS Pz.ltK; by_cases c : a.aw < b.aw <;> by_cases c2 : b.aw < a.aw <;> simp [c, c2], h2⟩⟩
theorem perm_map_inv {α β : Type} (f : α → β) : ∀ {ps qs : List β}, qs.Perm ps → ∀ L : List α, L.map f = ps → ∃ L' : List α, L'.Perm L ∧ L'.map f = qs := by
 intro ps qs h
 induction h with
 | nil => intro L hL; exact ⟨L, List.Perm.refl _, hL⟩
 | cons x _ ih =>
  intro L hL
  cases L with
  | nil => cases hL
  | cons a L =>
   simp only [List.map_cons, List.cons.injEq] at hL
   obtain ⟨L', h1, h2⟩ := ih L hL.2
   exact ⟨a :: L', h1.cons a, by rw [List.map_cons, h2, hL.1]⟩
 | swap x y l =>
  intro L hL
  match L, hL with
  | a :: b :: L, hL =>
   simp only [List.map_cons, List.cons.injEq] at hL
   exact ⟨b :: a :: L, List.Perm.swap _ _ _, by simp [hL.1, hL.2.1, hL.2.2]⟩
 | trans _ _ ih1 ih2 =>
  intro L hL
  obtain ⟨L1, h1, h2⟩ := ih2 L hL
  obtain ⟨L2, h3, h4⟩ := ih1 L1 h2
  exact ⟨L2, h3.trans h1, h4⟩
set_option maxRecDepth 100000 in
theorem trio_new (w : World) (a b c : Obj) : (((w.alloc a).alloc b).alloc c).heap[w.heap.size]? = some a ∧ (((w.alloc a).alloc b).alloc c).heap[w.heap.size + 1]? = some b ∧ (((w.alloc a).alloc b).alloc c).heap[w.heap.size + 2]? = some c ∧ Below w.heap.size w (((w.alloc a).alloc b).alloc c) ∧ (((w.alloc a).alloc b).alloc c).heap.size = w.heap.size + 3 := by
 obtain ⟨x1, x2, x3⟩ := two_new w a b
 have hs : ((w.alloc a).alloc b).heap.size = w.heap.size + 2 := by simp
 have y1 := heap_alloc_new ((w.alloc a).alloc b) c
 have y2 := below_new ((w.alloc a).alloc b) c
 rw [hs] at y1 y2
 exact ⟨(y2.block _ (by omega)).trans x1, (y2.block _ (by omega)).trans x2, y1, x3.trans (y2.mono (by omega)), by simp⟩
theorem len_le {L : List (Pc × List Rw)} (h : ∀ a ∈ L, 0 < a.2.length) : L.length ≤ (L.flatMap Prod.snd).length := by
 induction L with
 | nil => simp
 | cons a L ih =>
  have h1 := h a (by simp)
  have h2 := ih fun b hb => h b (by simp [hb])
  rw [List.flatMap_cons, List.length_append, List.length_cons]
  omega
end Go.Proofs.Ytimdlohdmddnjaa.Rq
/- The walk of pieces. -/
namespace Go.Proofs.Ytimdlohdmddnjaa.Rq
open Go.RowKit Go.Lib Go.Shelf
open Go.Proofs.Ytimdlohdmddnjaa.Rc
open Pz (Pc pcs pv)
attribute [local go_sem] Oper.semAt_some
set_option maxRecDepth 100000 in
set_option maxHeartbeats 4000000 in
theorem pieces_any (n0 : Nv) (l0 : List Rw) (d x y : Nat) (hxy : onS x y = true) (w : World) (hN : NodeAt (fun _ => True) d w n0 l0) (hon : On l0) (hmax : l0.length ≤ 1000) :
  Calls Try.prog 47 #[nv n0, .int .u32 (x : Int), .int .u32 (y : Int)] w fun e w' => ∃ v ps, e = .returned v ∧ w'.ownsRow w.heap.size 87 2 v ps.length (ps.flatMap pcs) ∧ (ps.Pairwise fun a b => a.aw ≤ b.aw) ∧ (∃ L : List (Pc × List Rw), L.map Prod.fst = ps ∧ (∀ a ∈ L, PA w' x y a) ∧ (L.flatMap Prod.snd).Perm l0) ∧ Below w.heap.size w w' := by
 have hp := seqs_perm (fun X Y L => rightS X Y (L : Int)) (fun _ => true) (fun m hm ho h => by
  obtain ⟨r, hr⟩ := List.exists_mem_of_ne_nil m hm
  have := hasS_right (lev_has ho hr)
  rw [this] at h; cases h) d l0 hN.fits hon
 rw [filter_all] at hp
 have hvs := vis_on (fun X Y L => rightS X Y (L : Int)) d l0 1000 hon hmax
 have hvl : visL (fun X Y L => rightS X Y (L : Int)) d [l0] = vis (fun X Y L => rightS X Y (L : Int)) d l0 := by simp [visL]
 obtain ⟨vs, hvsd⟩ : ∃ vs, vis (fun X Y L => rightS X Y (L : Int)) d l0 = vs := ⟨_, rfl⟩
 rw [hvsd] at hp hvs hvl
 have HVS : Hid (visL (fun X Y L => rightS X Y (L : Int)) d [l0] = vs) := hvl
 have HVs : Hid (∀ m ∈ vs, On m ∧ m.length ≤ 1000) := hvs
 have HP : Hid ((seqs (fun _ => true) vs).Perm l0) := hp
 have HM : Hid (l0.length ≤ 1000) := hmax
 have HXY : Hid (onS x y = true) := hxy
 have HOn : Hid (On l0) := hon
 obtain ⟨t1, t2, t3, t4, t5⟩ := trio_new w (.cells #[.int .u32 (n0.X : Int), .int .u32 (n0.Y : Int), .int .i64 (n0.L : Int), .slice n0.ro n0.rn n0.rc, .slice n0.ko n0.kn n0.kc] 45) (.cells #[.int .u32 (x : Int)] 22) (.cells #[.int .u32 (y : Int)] 22)
 obtain ⟨W0, hW0⟩ : ∃ W0, ((w.alloc (.cells #[.int .u32 (n0.X : Int), .int .u32 (n0.Y : Int), .int .i64 (n0.L : Int), .slice n0.ro n0.rn n0.rc, .slice n0.ko n0.kn n0.kc] 45)).alloc (.cells #[.int .u32 (x : Int)] 22)).alloc (.cells #[.int .u32 (y : Int)] 22) = W0 := ⟨_, rfl⟩
 rw [hW0] at t1 t2 t3 t4 t5
 have HN : Hid (NodeAt (fun _ => True) d W0 n0 l0) := NodeAt.below hN t4 (Nat.le_refl _)
 have HW0 : Hid _ := hW0
 have HP2 : Hid (Pt2 W0 (w.heap.size + 1) (w.heap.size + 2) x y) := ⟨t2, t3⟩
 have HB0 : Hid (Below w.heap.size w W0) := t4
 have HS0 : Hid (W0.heap.size = w.heap.size + 3) := t5
 have HEn : Hid _ := ent_right W0
 clear hN hon hmax hxy hp hvs hvl hvsd t1 t2 t3 t4 t5 hW0
 obtain ⟨nX, nY, nL, nro, nrn, nrc, nko, nkn, nkc⟩ := n0
 simp only at HW0
 refine (callsIn_wide (n := 5)).1 ?_
 refine callsIn_of_wp_marks Try.func47 rfl trivial ?_ rfl
 simp only [nv, Try.ntmps47, List.size_toArray, List.length_cons, List.length_nil, Nat.reduceAdd, Nat.reduceSub, Array.replicate_succ, Array.replicate_zero, List.push_toArray, List.append_toArray, List.nil_append, List.cons_append]
 gi_wp2
 rw [HW0.out]
 clear HW0
 refine ⟨trivial, callsIn_wide.2 ((nodes_any _ _ _ 1 1 _).mono ?_)⟩
 rintro e Wn ⟨rfl, hWn⟩
 have hsS : ((W0.alloc (.cells #[.slice none 0 0] 84)).alloc (.cells #[.int .u32 (nX : Int), .int .u32 (nY : Int), .int .i64 (nL : Int), .slice nro nrn nrc, .slice nko nkn nkc] 45)).heap.size = w.heap.size + 5 := by have := HS0.out; simp; omega
 rw [hsS]
 subst hWn
 obtain ⟨u1, u2, u3⟩ := two_new W0 (.cells #[.slice none 0 0] 84) (.cells #[.int .u32 (nX : Int), .int .u32 (nY : Int), .int .i64 (nL : Int), .slice nro nrn nrc, .slice nko nkn nkc] 45)
 obtain ⟨y1, y2, y3⟩ := two_new ((W0.alloc (.cells #[.slice none 0 0] 84)).alloc (.cells #[.int .u32 (nX : Int), .int .u32 (nY : Int), .int .i64 (nL : Int), .slice nro nrn nrc, .slice nko nkn nkc] 45)) (.cells #[.func (.func 74) #[] #[]] 74) (.cells #[.slice (some ⟨w.heap.size + 1 + 1 + 1 + 1, 0, none⟩) 1 1] 43)
 rw [hsS] at y1 y2 y3
 have hs0 := HS0.out
 rw [hs0] at u1 u2 u3
 obtain ⟨Wf, hWf⟩ : ∃ Wf, ((((W0.alloc (.cells #[.slice none 0 0] 84)).alloc (.cells #[.int .u32 (nX : Int), .int .u32 (nY : Int), .int .i64 (nL : Int), .slice nro nrn nrc, .slice nko nkn nkc] 45)).alloc (.cells #[.func (.func 74) #[] #[]] 74)).alloc (.cells #[.slice (some ⟨w.heap.size + 1 + 1 + 1 + 1, 0, none⟩) 1 1] 43)) = Wf := ⟨_, rfl⟩
 have hsf : Wf.heap.size = w.heap.size + 7 := by rw [← hWf]; simp; omega
 rw [hWf] at y1 y2 y3 ⊢
 have HNf : Hid (NodesAt Wf (some ⟨w.heap.size + 4, 0, none⟩) 1 [⟨nX, nY, nL, nro, nrn, nrc, nko, nkn, nkc⟩]) := by
  have h := one_node (n := ⟨nX, nY, nL, nro, nrn, nrc, nko, nkn, nkc⟩) ((y3.block _ (by omega)).trans u2)
  have e : [(⟨nX, nY, nL, nro, nrn, nrc, nko, nkn, nkc⟩ : Nv)].flatMap nc = nc ⟨nX, nY, nL, nro, nrn, nrc, nko, nkn, nkc⟩ := by simp
  unfold NodesAt
  rw [e]; exact h
 have HOUT : Hid (Wf.heap[w.heap.size + 3]? = some (.cells #[.slice none 0 0] 84 (0, 0))) := (y3.block _ (by omega)).trans u1
 have HBf : Hid (Below W0.heap.size W0 Wf) := by rw [hs0]; exact u3.trans (y3.mono (by omega))
 have HY1 : Hid (Wf.heap[w.heap.size + 5]? = some (.cells #[.func (.func 74) #[] #[]] 74 (0, 0))) := y1
 have HY2 : Hid (Wf.heap[w.heap.size + 6]? = some (.cells #[.slice (some ⟨w.heap.size + 4, 0, none⟩) 1 1] 43 (0, 0))) := y2
 obtain ⟨gx, hgx⟩ : ∃ gx, w.heap.size + 1 = gx := ⟨_, rfl⟩
 obtain ⟨gy, hgy⟩ : ∃ gy, gx + 1 = gy := ⟨_, rfl⟩
 obtain ⟨g7, hg7⟩ : ∃ g7, gy + 1 = g7 := ⟨_, rfl⟩
 obtain ⟨gS, hgS⟩ : ∃ gS, g7 + 1 = gS := ⟨_, rfl⟩
 obtain ⟨gE, hgE⟩ : ∃ gE, w.heap.size + 5 = gE := ⟨_, rfl⟩
 obtain ⟨gL, hgL⟩ : ∃ gL, gE + 1 = gL := ⟨_, rfl⟩
 have HGs : Hid (gx = w.heap.size + 1 ∧ gy = w.heap.size + 2 ∧ g7 = w.heap.size + 3 ∧ gS = w.heap.size + 4 ∧ gE = w.heap.size + 5 ∧ gL = w.heap.size + 6 ∧ Wf.heap.size = w.heap.size + 7 ∧ W0.heap.size = w.heap.size + 3) := ⟨by omega, by omega, by omega, by omega, by omega, by omega, hsf, hs0⟩
 rw [hgx, hgy, hg7, hgS, hgE, hgL]
 rw [show w.heap.size + 4 = gS by omega] at HNf HY2
 rw [show w.heap.size + 3 = g7 by omega] at HOUT
 rw [show w.heap.size + 5 = gE by omega] at HY1
 rw [show w.heap.size + 6 = gL by omega] at HY2
 rw [show w.heap.size + 2 = gy by omega, hgx] at HP2
 have h70 : W0.heap.size = g7 := by omega
 have H70 : Hid (W0.heap.size = g7) := h70
 clear u1 u2 u3 y1 y2 y3 hsS hs0 hWf hgx hgy hg7 hgS hgE hgL hsf h70
 gi_wp2
 refine range_law9 (by omega) (gf := 87) (lb := #[.pointer (some ⟨gL, 0, none⟩), .pointer (some ⟨gE, 0, none⟩)]) rfl (enters_of Try.func87 (by kernel_rfl) rfl) (α := Nv) vs.length (fun n => #[nv n]) (fun _ => rfl) (fun k n => ∃ d'', NodeAt (fun _ => True) d'' W0 n (vat vs k))
  (fun own t W => PJ W0 x y vs own t W) (fun _ _ => False) .ret ?hJ ?hJx (fun j => j = g7) ?hown0 ?h0
  (fun n a' Wx => ∃ q, Wf.heap.size + 2 ≤ q ∧ Wx.heap[q]? = some (.cells #[.int .u32 (n.X : Int), .int .u32 (n.Y : Int), .int .i64 (n.L : Int), .slice n.ro n.rn n.rc, .slice n.ko n.kn n.kc] 45 (0, 0)) ∧ a' = { tmps := #[nv ⟨nX, nY, nL, nro, nrn, nrc, nko, nkn, nkc⟩, .int .u32 (x : Int), .int .u32 (y : Int), .pointer (some ⟨w.heap.size, 0, none⟩), .pointer (some ⟨gx, 0, none⟩), .pointer (some ⟨gy, 0, none⟩), .slice none 0 0, .pointer (some ⟨g7, 0, none⟩), .pointer (some ⟨q, 0, none⟩), undef, undef, nv ⟨nX, nY, nL, nro, nrn, nrc, nko, nkn, nkc⟩, .slice (some ⟨gS, 0, none⟩) 1 1, .func (.func 87) #[] #[.pointer (some ⟨gL, 0, none⟩), .pointer (some ⟨gE, 0, none⟩)], nv n, undef, undef, undef, undef, undef, undef, undef, undef, undef, undef, undef, undef, undef, undef, undef, undef, undef, undef, undef, undef, undef, undef], defers := [] }) ?hA ?assign ?body ?iter ?done ?stop
 case hJ =>
  intro own k A B h hk
  exact h.kw hk (by have := HGs.out; omega)
 case hJx => intro own A B h _; exact h
 case hown0 => intro j hj; have := HGs.out; omega
 case h0 =>
  have h70 := H70.out
  exact ⟨⟨_, [], h70 ▸ HOUT.out, World.ownsRow_nil _ _ _ _, fun b hb => by simp [Value.ownBlock] at hb, [], rfl, (fun a ha => by cases ha), by simp [seqs]⟩, HBf.out, h70, fun j hj => by omega⟩
 case hA =>
  rintro n a' W l' o' ⟨q, hq1, hq2, rfl⟩ h1 h2
  exact ⟨q, hq1, (World.putObj_heap_other (by omega)).trans hq2, rfl⟩
 case assign =>
  intro l' own k n W' K hk hok hJk hsz hK
  obtain ⟨mX, mY, mL, mro, mrn, mrc, mko, mkn, mkc⟩ := n
  clear hok hJk
  gi_wp2
  exact hK _ _ (below_new W' _) ⟨W'.heap.size, by omega, heap_alloc_new W' _, rfl⟩
 case iter =>
  intro l' W5 hl' hB5 hs5 R' Rx' ow how hR' hRx' hY' h0'
  have hg := HGs.out
  have h := nodes1_any W0 _ _ _ HEn.out d [⟨nX, nY, nL, nro, nrn, nrc, nko, nkn, nkc⟩] [l0] rfl (fun i h1 h2 => ?_) (fun m hm => ?_) (by simp) W5 gL gE (some ⟨gS, 0, none⟩) 1 (HBf.out.trans (hB5.mono HBf.out.size)) ?_ ?_ (Sl.below HNf.out hB5 (Nat.le_refl _)) l' R' Rx' ow (fun j hj => ?_) hR' hRx'
  ·rw [HVS.out] at h
   exact h (fun own k n W hk hok hRk hsz _ => hY' own k n W hk hok hRk fun j hj => (hsz j hj).2) h0'
  ·have : i = 0 := by simpa using h1
   subst this
   exact HN.out
  ·have : m = l0 := by simpa using hm
   subst this
   exact HOn.out
  ·exact (hB5.block _ (by omega)).trans HY2.out
  ·exact (hB5.block _ (by omega)).trans HY1.out
  ·rcases (how j).1 hj with a | rfl
   ·exact ⟨by omega, by omega, by omega, by omega, fun _ off' e => by cases e; omega⟩
   ·exact ⟨by omega, by omega, by omega, by omega, fun _ off' e => by cases e; omega⟩
 case stop => intro D own W' _ _ h _; exact h.elim
 case done =>
  intro D own W' hDe hno hJ hdf
  have HDf : Hid _ := hdf
  obtain ⟨v, ps, h1, h2, h3, L, e1, e2, e3⟩ := hJ.rows
  rw [List.take_length] at e3
  have h70 := H70.out
  rw [h70] at h1 h2
  have hpl : ps.length ≤ 1000 := by
   have := len_le fun a ha => (e2 a ha).pos
   rw [e3, HP.out.length_eq] at this
   rw [← e1, List.length_map]
   exact Nat.le_trans this HM.out
  have hgs := HGs.out
  have hWb : Below w.heap.size w W' := HB0.out.trans (hJ.bel.mono HB0.out.size)
  have HSO : Hid (∀ _ : True, _) := fun _ => Pz.sortR_any W0 _ _ _ _ (cmp_pieces W0) (g7 + 1) (by omega) ps (by omega) (fun _ _ => trivial) v W' h2 hJ.bel (by have := (Array.getElem?_eq_some_iff.1 h1).1; omega)
  have HBl : Hid (Below w.heap.size w W') := hWb
  have HLs : Hid (L.map Prod.fst = ps ∧ (∀ a ∈ L, PA W0 x y a) ∧ (L.flatMap Prod.snd).Perm l0) := ⟨e1, e2, by rw [e3]; exact HP.out⟩
  have HBJ : Hid (Below W0.heap.size W0 W') := hJ.bel
  have HDs : Hid (D = Wf.heap.size ∧ ∀ b, v.ownBlock = some b → b ≠ D ∧ b ≠ g7) := ⟨hDe, fun b hb => ⟨fun e => hno (e ▸ h3 b hb), fun e => by have := (own_base h2 hb).1; omega⟩⟩
  have HG7 : Hid (W'.heap[g7]? = some (.cells #[v] 84 (0, 0))) := h1
  have HVB : Hid (∀ b, v.ownBlock = some b → g7 + 1 ≤ b) := fun b hb => (own_base h2 hb).1
  have c0 : W'.cell? ⟨g7, 0, none⟩ = some v := by rw [cell_of_row _ _ _ _ _ _ h1]; rfl
  have l0' : g7 < W'.heap.size := (Array.getElem?_eq_some_iff.1 h1).1
  obtain ⟨o, cap, rfl, -⟩ := sl_of_own h2
  clear hJ hdf hDe hno h1 h2 h3 e1 e2 e3 hgs h70 hWb
  gi_wp2
  refine ⟨trivial, callsIn_wide.2 (Calls.mono (HSO.out trivial) ?_)⟩
  rintro e W2 ⟨rfl, m, hp, hs, ho, hb⟩
  have hg7 : W2.heap[g7]? = some (.cells #[.slice o ps.length cap] 84 (0, 0)) := (hb.block _ (Array.getElem?_eq_some_iff.1 HG7.out).1 fun e => (HDs.out.2 _ e).2 rfl).trans HG7.out
  have HDf2 : Hid (W2.heap[D]? = some (.deferred (some []))) := (hb.block _ (Array.getElem?_eq_some_iff.1 HDf.out).1 fun e => (HDs.out.2 _ e).1 rfl).trans HDf.out
  have c0 : W2.cell? ⟨g7, 0, none⟩ = some (.slice o ps.length cap) := by rw [cell_of_row _ _ _ _ _ _ hg7]; rfl
  have l0' : g7 < W2.heap.size := (Array.getElem?_eq_some_iff.1 hg7).1
  have HO2 : Hid (W2.ownsRow (g7 + 1) 87 2 (.slice o ps.length cap) m.length (m.flatMap pcs)) := ho
  have HPM : Hid (m.Perm ps ∧ m.Pairwise fun a b => a.aw ≤ b.aw) := ⟨hp, hs⟩
  have HB2 : Hid (But (fun k => (Value.slice o ps.length cap).ownBlock = some k) W' W2) := hb
  clear hg7 ho hp hs hb HSO
  gi_wp2
  refine leaves_marks (fun W => results_tmp rfl _ _ _) [D] W2 (by simp) (fun E hE => by simp at hE; subst hE; exact HDf2.out) fun W'' hb => ?_
  have hgs := HGs.out
  have hdd := HDs.out
  have hb2 := HB2.out
  have hbw : Below W0.heap.size W0 W'' := HBJ.out.trans ⟨hb.os.trans hb2.os, hb.tape.trans hb2.tape, hb.output.trans hb2.output, Nat.le_trans hb2.size hb.size, fun j hj => by
   have hj1 : j < W'.heap.size := Nat.lt_of_lt_of_le hj HBJ.out.size
   refine (hb.block j (Nat.lt_of_lt_of_le hj1 hb2.size) fun e => ?_).trans (hb2.block j hj1 fun e => ?_)
   ·have e' : j = D := by simpa using e
    omega
   ·have := HVB.out j e
    omega⟩
  obtain ⟨e1, e2, e3⟩ := HLs.out
  obtain ⟨L', q1, q2⟩ := perm_map_inv Prod.fst HPM.out.1 L e1
  refine ⟨_, m, rfl, own_lower (own_same HO2.out fun b hb' hlt => hb.block b hlt fun e => ?_) (by omega), HPM.out.2, ⟨L', q2, fun a ha => ?_, ?_⟩, HB0.out.trans (hbw.mono (by omega))⟩
  ·have e' : b = D := by simpa using e
   exact (hdd.2 b hb').1 e'
  ·have := e2 a (q1.mem_iff.1 ha)
   exact ⟨this.len, this.pos, RowsAt.below this.rows hbw (Nat.le_refl _), this.far⟩
  ·exact (q1.flatMap_right Prod.snd).trans e3
 case body =>
  rintro l' own k n a' W' hk hok hJ ⟨q, hq1, hq2, rfl⟩ hsz hol
  obtain ⟨mX, mY, mL, mro, mrn, mrc, mko, mkn, mkc⟩ := n
  obtain ⟨d2, hd2⟩ := hok
  have hmem : vat vs k ∈ vs := by rw [vat_get hk]; exact List.getElem_mem hk
  obtain ⟨hmX, hmY, hmL, lr, e1, e2, e3⟩ : mX = cx (vat vs k) ∧ mY = cy (vat vs k) ∧ mL = lev (vat vs k) ∧ ∃ lr : List Rw, lr = rowsOf (vat vs k) ∧ mrn = lr.length ∧ RowsAt W0 mro mrc lr := by
   cases d2 with
   | zero => exact hd2.elim
   | succ d2 =>
    obtain ⟨a1, a2, a3, h4, h5⟩ := hd2
    refine ⟨a1, a2, a3, _, rfl, ?_⟩
    unfold rowsOf
    cases hlf : leaf (vat vs k)
    ·obtain ⟨a, b, _⟩ := h5 hlf
     exact ⟨a, b⟩
    ·obtain ⟨a, b, _⟩ := h4 hlf
     exact ⟨a, b⟩
  have hsub : ∀ r ∈ lr, r ∈ vat vs k := fun r hr => by
   rw [e1] at hr
   unfold rowsOf at hr
   split at hr
   ·exact hr
   ·simp at hr
  have hfar : ∀ r ∈ lr, (fars mX mY (mL : Int) x y).1 ≤ Rq.dist r.x r.y x y := fun r hr => by
   rw [hmX, hmY, hmL]
   exact away_le HXY.out (HVs.out _ hmem).1 (hsub r hr)
  have hcl := lev_cl (HVs.out _ hmem).1
  have HCF : Hid _ := far_any mX mY (mL : Int) x y (by rw [hmX]; have := hcl.x31; omega) (by rw [hmY]; have := hcl.y31; omega)
  have HTK : Hid (seqs (fun _ => true) (vs.take (k + 1)) = seqs (fun _ => true) (vs.take k) ++ lr) := by
   refine (?_ : seqs (fun _ => true) (vs.take (k + 1)) = _)
   rw [seqs_take _ _ _ hk, ← e1, filter_all]
  have HRA : Hid (RowsAt W0 mro mrc lr) := e3
  have HFR : Hid (∀ r ∈ lr, (fars mX mY (mL : Int) x y).1 ≤ Rq.dist r.x r.y x y) := hfar
  have hl1000 : lr.length ≤ 1000 := by
   rw [e1]; unfold rowsOf; split
   ·exact (HVs.out _ hmem).2
   ·simp
  subst e2
  have HJe : Hid (PJ W0 x y vs own k W') := hJ
  obtain ⟨⟨aw, hew⟩, hfe⟩ : ∃ aw : Nat × Int, fars mX mY (mL : Int) x y = aw := ⟨_, rfl⟩
  rw [hfe] at HFR HCF
  simp only at HFR
  simp only [fv, cv] at HCF
  have h70 := H70.out
  have hgs := HGs.out
  obtain ⟨z0, z1, z2, z3, z4, t0, t1, t2, t3, t4⟩ := node_facts hq2
  have lq : q < W'.heap.size := (Array.getElem?_eq_some_iff.1 hq2).1
  clear z0 z1 z2 z3 z4 hd2 hmem hsub hfar hcl hmX hmY hmL hfe e3
  by_cases hpos : 0 < lr.length
  ·have q1 : (0 : Int) < (lr.length : Int) := by omega
   have HP2k : Hid (Pt2 W' gx gy x y) := HP2.out.grow hJ.bel (Nat.le_refl _)
   have cx0 : W'.cell? ⟨gx, 0, none⟩ = some (.int .u32 (x : Int)) := by rw [cell_of_row _ _ _ _ _ _ HP2k.out.x]; rfl
   have cy0 : W'.cell? ⟨gy, 0, none⟩ = some (.int .u32 (y : Int)) := by rw [cell_of_row _ _ _ _ _ _ HP2k.out.y]; rfl
   have lx : gx < W'.heap.size := (Array.getElem?_eq_some_iff.1 HP2k.out.x).1
   have ly : gy < W'.heap.size := (Array.getElem?_eq_some_iff.1 HP2k.out.y).1
   have HQ2 : Hid (W'.heap[q]? = some (.cells #[.int .u32 (mX : Int), .int .u32 (mY : Int), .int .i64 (mL : Int), .slice mro lr.length mrc, .slice mko mkn mkc] 45 (0, 0))) := hq2
   have HKs : Hid (k < vs.length ∧ (∀ j, own j → j < W'.heap.size) ∧ W0.heap.size = g7) := ⟨hk, hol, h70⟩
   clear hJ hk hsz hol hq2 e1 hgs h70
   gi_wp2
   refine ⟨trivial, callsIn_wide.2 ((HCF.out _).mono ?_)⟩
   rintro e W3 ⟨rfl, b3⟩
   have hJ3 : PJ W0 x y vs own k W3 := HJe.out.kw (Kw.of_below b3) (B := W'.heap.size) (by have := HJe.out.bel.size; omega)
   obtain ⟨u, ps, h1, h2, h3, L, e1, e2, e3⟩ := hJ3.rows
   have h70 := HKs.out.2.2
   rw [h70] at h1 h2
   have hpl : ps.length ≤ 1000 := by
    have := len_le fun a ha => (e2 a ha).pos
    rw [e3] at this
    have h5 : (seqs (fun _ => true) (vs.take k)).length ≤ (seqs (fun _ => true) vs).length := by
     have e9 := seqs_split (fun _ => true) vs k HKs.out.1
     rw [e9, List.length_append]; omega
    rw [HP.out.length_eq] at h5
    rw [← e1, List.length_map]
    exact Nat.le_trans this (Nat.le_trans h5 HM.out)
   have hq3 := (b3.block _ (Array.getElem?_eq_some_iff.1 HQ2.out).1).trans HQ2.out
   obtain ⟨z0, z1, z2, z3, z4, s0, s1, s2, s3, s4⟩ := node_facts hq3
   have lq3 : q < W3.heap.size := (Array.getElem?_eq_some_iff.1 hq3).1
   have hbn := below_new W3 (.cells #[.int .u64 (aw : Int), .slice mro lr.length mrc] 87)
   have c0 : W3.cell? ⟨g7, 0, none⟩ = some u := by rw [cell_of_row _ _ _ _ _ _ h1]; rfl
   have l7 : g7 < W3.heap.size := (Array.getElem?_eq_some_iff.1 h1).1
   obtain ⟨v', W2, hrun, a1, a2, a3⟩ := append_sl 84 87 Try.underlying84 infoPiece rfl (by decide) (by decide) (W3.alloc (.cells #[.int .u64 (aw : Int), .slice mro lr.length mrc] 87)) (g7 + 1) ps.length 1 u (some ⟨W3.heap.size, 0, none⟩) 1
    (ps.flatMap pcs) (pcs ⟨aw, mro, lr.length, mrc⟩) (own_same h2 fun b _ hb => hbn.block b hb) (by simp; omega) (one_piece (r := ⟨aw, mro, lr.length, mrc⟩) (heap_alloc_new W3 _)) (pcs_one _) (by omega)
   have HRU : Hid _ := hrun
   have nb : ∀ b, b ≤ g7 → u.ownBlock ≠ some b := fun b hb e => by have := (own_base h2 e).1; omega
   have hB2 : W2.heap[g7]? = some (.cells #[u] 84 (0, 0)) := (a2.block _ (by simp; omega) (fun e => nb _ (Nat.le_refl _) e.symm)).trans ((hbn.block _ l7).trans h1)
   have z5 : W2.frozen? ⟨g7, 0, none⟩ = false := frozen_of_row W2 _ 0 _ _ hB2
   have l2 : g7 < W2.heap.size := (Array.getElem?_eq_some_iff.1 hB2).1
   have d0 : W2.cell? ⟨g7, 0, none⟩ = some u := by rw [cell_of_row _ _ _ _ _ _ hB2]; rfl
   have HFIN : Hid (∃ own', (∀ j, own' j → own j ∨ (W'.heap.size ≤ j ∧ j < (W2.setCell ⟨g7, 0, none⟩ v').heap.size)) ∧ But own W' (W2.setCell ⟨g7, 0, none⟩ v') ∧ PJ W0 x y vs own' (k + 1) (W2.setCell ⟨g7, 0, none⟩ v')) := by
    have hs2 := a2.size
    have hs3 := b3.size
    have hm7 : own g7 := h70 ▸ HJe.out.mine
    have hsa : (W3.alloc (.cells #[.int .u64 (aw : Int), .slice mro lr.length mrc] 87)).heap.size = W3.heap.size + 1 := by simp
    have hss : (W2.setCell ⟨g7, 0, none⟩ v').heap.size = W2.heap.size := by simp [World.setCell]
    have hob : ∀ {b : Nat}, v'.ownBlock = some b → g7 + 1 ≤ b ∧ b < W2.heap.size := fun hb => own_base a1 hb
    have hst : ∀ j, j ≠ g7 → (W2.setCell ⟨g7, 0, none⟩ v').heap[j]? = W2.heap[j]? := fun j hj => Below.heap_setCell _ _ _ _ (fun e => hj e)
    have hbk : ∀ j, j < W'.heap.size → j ≠ g7 → u.ownBlock ≠ some j → (W2.setCell ⟨g7, 0, none⟩ v').heap[j]? = W'.heap[j]? := fun j hj h1' h2' => (hst j h1').trans ((a2.block j (by omega) (fun e => h2' e.symm)).trans ((hbn.block j (by omega)).trans (b3.block j hj)))
    refine ⟨fun j => own j ∨ v'.ownBlock = some j, fun j hj => ?_, ⟨a2.os.trans (hbn.os.trans b3.os), a2.tape.trans (hbn.tape.trans b3.tape), a2.output.trans (hbn.output.trans b3.output), by omega, fun j hj hn => hbk j hj (fun e => hn (e ▸ hm7)) fun e => hn (h3 j e)⟩, ⟨⟨v', ps ++ [⟨aw, mro, lr.length, mrc⟩], ?_, ?_, fun b hb => .inr hb, L ++ [(⟨aw, mro, lr.length, mrc⟩, lr)], ?_, ?_, ?_⟩, ?_, .inl HJe.out.mine, fun j hj => ?_⟩⟩
    ·rcases hj with hj | hj
     ·exact .inl hj
     ·rcases a3 with a3 | a3
      ·exact .inl (h3 j (by rw [← a3]; exact hj))
      ·rw [a3] at hj
       have := hob a3
       cases hj
       exact .inr ⟨by omega, by omega⟩
    ·rw [h70]; exact box1_set hB2
    ·rw [h70, List.flatMap_append, List.length_append]
     refine own_same ?_ fun b hb _ => hst b (fun e => by have := (hob hb).1; omega)
     simpa using a1
    ·simp [e1]
    ·intro a ha
     rcases List.mem_append.1 ha with ha | ha
     ·exact e2 a ha
     ·have : a = (⟨aw, mro, lr.length, mrc⟩, lr) := by simpa using ha
      subst this
      exact ⟨rfl, hpos, HRA.out, HFR.out⟩
    ·rw [HTK.out, List.flatMap_append, e3]; simp
    ·rw [h70]
     have := HJe.out.bel
     have hbs := HJe.out.bel.size
     rw [h70] at this hbs
     exact this.trans ⟨a2.os.trans (hbn.os.trans b3.os), a2.tape.trans (hbn.tape.trans b3.tape), a2.output.trans (hbn.output.trans b3.output), by omega, fun j hj => hbk j (Nat.lt_of_lt_of_le hj (by omega)) (by omega) (nb j (by omega))⟩
    ·rcases hj with hj | hj
     ·exact HJe.out.least j hj
     ·have := (hob hj).1
      omega
   obtain ⟨o, cap, rfl, -⟩ := sl_of_own h2
   obtain ⟨o', cap', rfl, -⟩ := sl_of_own a1
   clear b3 hJ3 h1 h2 h3 e1 e2 e3 nb hB2 a1 a2 a3 hbn hq3 hrun t0 t1 t2 t3 t4 cx0 cy0 lx ly lq hpl h70 z0 z1 z2 z3 z4
   gi_wp2_with (gi_at_builtin; refine listIn_append rfl 84 84 (.tmp 27) (.tmp 32) rfl (vs := .slice o ps.length cap) (vx := .slice (some ⟨W3.heap.size, 0, none⟩) 1 1) rfl rfl HRU.out ?_)
   exact HFIN.out
  ·have q1 : ¬ (0 : Int) < (lr.length : Int) := by omega
   have HFIN : Hid (∃ own', (∀ j, own' j → own j ∨ (W'.heap.size ≤ j ∧ j < W'.heap.size)) ∧ But own W' W' ∧ PJ W0 x y vs own' (k + 1) W') := by
    refine ⟨own, fun j hj => .inl hj, But.refl _ _, ?_, HJe.out.bel, HJe.out.mine, HJe.out.least⟩
    obtain ⟨v, ps, h1, h2, h3, L, e1, e2, e3⟩ := HJe.out.rows
    refine ⟨v, ps, h1, h2, h3, L, e1, e2, ?_⟩
    have : lr = [] := List.eq_nil_of_length_eq_zero (by omega)
    rw [HTK.out, this, List.append_nil, e3]
   clear hJ hk hsz hol hq2 e1 hgs h70
   gi_wp2
   exact HFIN.out
end Go.Proofs.Ytimdlohdmddnjaa.Rq
