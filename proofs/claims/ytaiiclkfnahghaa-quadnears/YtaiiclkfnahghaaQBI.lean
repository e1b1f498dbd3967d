/- The stable sort of rows. -/
import Derived.Test.YtaiiclkfnahghaaPBJ
namespace Go.Proofs.Ytaiiclkfnahghaa.Rq
open Go.RowKit Go.Lib Go.Shelf
open Go.Proofs.Ytaiiclkfnahghaa.Rc
set_option maxRecDepth 100000 in
set_option maxHeartbeats 4000000 in
theorem stableR_any (w0 : World) (ok : Rw → Prop) (K : Rw → Nat) (cf : Nat) (cb : Array Value) (hC : Cmp w0 ok (ltK K) cf cb) (g z cap : Nat) (hg : w0.heap.size ≤ g) (d : Array Rw) (hd : d.size ≤ 1000000) (hok : ∀ i, i < d.size → ok d[i]!) (w : World) (h : Ur w g z d) (hW : Below w0.heap.size w0 w) :
    Calls Try.prog 80 #[.slice (some ⟨g, 0, none⟩) d.size cap, .int .i64 (d.size : Int), .func (.func cf) #[] cb] w fun e w' => e = .returned (.tuple #[]) ∧ ∃ d', Ur w' g z d' ∧ Srt K 0 d.size d' ∧ Sort.PermIn 0 d.size d d' ∧ Bg g w w' := by
  have HU : Hid (Ur w g z d) := h
  have HW : Hid (Below w0.heap.size w0 w) := hW
  have HOK : Hid (∀ i, i < d.size → ok d[i]!) := hok
  have HI : Hid _ := insR_any w0 ok (ltK K) cf cb hC g z cap
  have HM : Hid _ := symR_any w0 ok K cf cb hC g z cap hg
  clear h hW hC hok
  obtain ⟨n, hsz⟩ : ∃ n, d.size = n := ⟨_, rfl⟩
  rw [hsz] at hd ⊢
  go_enter Try.func80, Try.ntmps80
  go_wp2_with fail
  go_loopw [7, 8] (fun av bv wr => ∃ (q a b : Nat) (d1 : Array Rw), av = .int .i64 (a : Int) ∧ bv = .int .i64 (b : Int) ∧ (a = q * 20 ∧ b = a + 20 ∧ a ≤ n) ∧ Ur wr g z d1 ∧ Pre K 20 q d1 ∧ Sort.PermIn 0 n d d1 ∧ Bg g w wr) (fun _ bv _ => n + 20 - natOf bv)
  case atStart => exact ⟨0, 0, 20, d, rfl, rfl, by omega, HU.out, Pre.zero _ _ _, Sort.permIn_refl _ _ _, But.refl _ _⟩
  case round =>
    obtain ⟨q, a, b, d1, rfl, rfl, ⟨hq', rfl, han⟩, hu, hpre, hpm, hbg⟩ := hrel
    have HQ : Hid (a = q * 20) := hq'
    clear hq'
    have S1 : d1.size = n := hpm.1.trans hsz
    have HU1 : Hid (Ur wr g z d1) := hu
    have HPR : Hid (Pre K 20 q d1) := hpre
    have HPM : Hid (Sort.PermIn 0 n d d1) := hpm
    have HBG : Hid (Bg g w wr) := hbg
    have HO1 : Hid (∀ i, i < d1.size → ok d1[i]!) := ok_perm (by omega) hpm HOK.out
    have HW1 : Hid (Below w0.heap.size w0 wr) := below_bg hg HW.out hbg
    clear hu hpre hpm hbg
    by_cases hlt : a + 20 ≤ n
    · have q1 : ((a + 20 : Nat) : Int) ≤ (n : Int) := by omega
      have HI1 : Hid (∀ _ : True, _) := fun _ => HI.out a (a + 20) d1 HO1.out (by omega) (by omega) (by omega) wr HU1.out hg HW1.out
      rw [S1] at HI1
      have HF : Hid (Sort.PermIn a (a + 20) d1 (Sort.insertionSort (ltK K) d1 a (a + 20)) ∧ Srt K a (a + 20) (Sort.insertionSort (ltK K) d1 a (a + 20))) := ins_key K d1 a (a + 20) (by omega) (by omega)
      obtain ⟨b, hb⟩ : ∃ b, a + 20 = b := ⟨_, rfl⟩
      rw [hb] at HI1 HF q1 ⊢
      clear HI
      go_wp2_with fail
      refine (HI1.out trivial).mono ?_
      rintro e w1 ⟨rfl, u2, b2⟩
      have q2 : IntKind.i64.wrap ((b : Int) + 20) = ((b + 20 : Nat) : Int) := by rw [wrap_i64 (by omega) (by omega)]; omega
      generalize Sort.insertionSort (ltK K) d1 a b = d2 at u2 HF
      have HE : Hid (Ur w1 g z d2 ∧ Pre K 20 (q + 1) d2 ∧ Sort.PermIn 0 n d d2 ∧ Bg g w w1) := ⟨u2, HPR.out.snoc HQ.out (fun k hk => HF.out.1.2.1 k (by omega)) (by rw [hb]; exact HF.out.2), Sort.permIn_trans _ _ _ _ _ HPM.out (Sort.permIn_mono _ _ _ _ _ _ (by omega) (by omega) (by omega) HF.out.1), HBG.out.trans b2⟩
      clear u2 b2 HI1 HF
      go_wp2_with fail
      go_roundw
      case rel => exact ⟨q + 1, b, b + 20, d2, rfl, by go_num, by have := HQ.out; omega, HE.out⟩
      case measure => simp [natOf]; omega
    · have q1 : ¬ ((a + 20 : Nat) : Int) ≤ (n : Int) := by omega
      have HI1 : Hid (∀ _ : True, _) := fun _ => HI.out a n d1 HO1.out (by omega) (by omega) (by omega) wr HU1.out hg HW1.out
      rw [S1] at HI1
      have HF : Hid (Sort.PermIn a n d1 (Sort.insertionSort (ltK K) d1 a n) ∧ Srt K a n (Sort.insertionSort (ltK K) d1 a n)) := ins_key K d1 a n (by omega) (by omega)
      obtain ⟨b, hb⟩ : ∃ b, a + 20 = b := ⟨_, rfl⟩
      rw [hb] at q1 ⊢
      clear HI
      go_wp2_with fail
      refine (HI1.out trivial).mono ?_
      rintro e w1 ⟨rfl, u2, b2⟩
      generalize Sort.insertionSort (ltK K) d1 a n = d2 at u2 HF
      have HE : Hid (Ur w1 g z d2 ∧ Suf K 20 0 n d2 ∧ Sort.PermIn 0 n d d2 ∧ Bg g w w1) := ⟨u2, HPR.out.suf HQ.out (by omega) (fun k hk => HF.out.1.2.1 k (by omega)) HF.out.2, Sort.permIn_trans _ _ _ _ _ HPM.out (Sort.permIn_mono _ _ _ _ _ _ (by omega) (by omega) (by omega) HF.out.1), HBG.out.trans b2⟩
      clear u2 b2 HI1 HF HPR HPM HBG HO1 HW1 HU1 q1 hlt hb HQ han S1
      go_wp2_with fail
      go_loopw [6] (fun sv wr => ∃ (s : Nat) (d1 : Array Rw), sv = .int .i64 (s : Int) ∧ (0 < s ∧ (s = 20 ∨ s < 2 * n)) ∧ Ur wr g z d1 ∧ Suf K s 0 n d1 ∧ Sort.PermIn 0 n d d1 ∧ Bg g w wr) (fun sv _ => n - natOf sv)
      case atStart => exact ⟨20, d2, rfl, by omega, HE.out⟩
      case round =>
        obtain ⟨s, d3, rfl, ⟨hs0, hs1⟩, hu, hsuf, hpm, hbg⟩ := hrel
        clear HE
        have S3 : d3.size = n := hpm.1.trans hsz
        have HU3 : Hid (Ur wr g z d3) := hu
        have HSF : Hid (Suf K s 0 n d3) := hsuf
        have HPM : Hid (Sort.PermIn 0 n d d3) := hpm
        have HBG : Hid (Bg g w wr) := hbg
        clear hu hsuf hpm hbg
        by_cases hsn : s < n
        · have q1 : (s : Int) < (n : Int) := by omega
          obtain ⟨S, hS⟩ : ∃ S, 2 * s = S := ⟨_, rfl⟩
          have q2 : IntKind.i64.wrap (2 * (s : Int)) = (S : Int) := by rw [wrap_i64 (by omega) (by omega)]; omega
          have q2' : IntKind.i64.wrap ((s : Int) * 2) = (S : Int) := by rw [wrap_i64 (by omega) (by omega)]; omega
          go_wp2_with fail
          go_loopw [7, 8] (fun av bv wr => ∃ (q a b : Nat) (d4 : Array Rw), av = .int .i64 (a : Int) ∧ bv = .int .i64 (b : Int) ∧ (a = q * S ∧ b = a + S ∧ a ≤ n) ∧ Ur wr g z d4 ∧ (Pre K S q d4 ∧ Suf K s a n d4) ∧ Sort.PermIn 0 n d d4 ∧ Bg g w wr) (fun _ bv _ => n + S - natOf bv)
          case atStart => exact ⟨0, 0, S, d3, rfl, rfl, by omega, HU3.out, ⟨Pre.zero _ _ _, HSF.out⟩, HPM.out, HBG.out⟩
          case round =>
            obtain ⟨q, a, b, d4, rfl, rfl, ⟨hq', hb', han⟩, hu, ⟨hpre, hsuf⟩, hpm, hbg⟩ := hrel
            have HQ : Hid (a = q * S) := hq'
            have HB : Hid (b = a + S) := hb'
            have hb1 : b ≤ a + S := by omega
            have hb2 : a + S ≤ b := by omega
            clear hq' hb'
            clear HU3 HSF HPM HBG
            have S4 : d4.size = n := hpm.1.trans hsz
            have HU4 : Hid (Ur wr g z d4) := hu
            have HPR : Hid (Pre K S q d4) := hpre
            have HSF : Hid (Suf K s a n d4) := hsuf
            have HPM : Hid (Sort.PermIn 0 n d d4) := hpm
            have HBG : Hid (Bg g w wr) := hbg
            have HO4 : Hid (∀ i, i < d4.size → ok d4[i]!) := ok_perm (by omega) hpm HOK.out
            have HW4 : Hid (Below w0.heap.size w0 wr) := below_bg hg HW.out hbg
            clear hu hpre hsuf hpm hbg
            obtain ⟨m, hm⟩ : ∃ m, a + s = m := ⟨_, rfl⟩
            have q3 : IntKind.i64.wrap ((a : Int) + (s : Int)) = (m : Int) := by rw [wrap_i64 (by omega) (by omega)]; omega
            by_cases hlt : b ≤ n
            · have q4 : (b : Int) ≤ (n : Int) := by omega
              have q5 : IntKind.i64.wrap ((b : Int) + (S : Int)) = ((b + S : Nat) : Int) := by rw [wrap_i64 (by omega) (by omega)]; omega
              have HM1 : Hid (∀ _ : True, _) := fun _ => HM.out (b - a) a m b d4 (Nat.le_refl _) (by omega) (by omega) (by omega) (by omega) HO4.out (by have := HSF.out.head; rwa [hm, Nat.min_eq_left (by omega)] at this) (by have := HSF.out.tail.head; rwa [hm, show m + s = b by omega, Nat.min_eq_left (by omega)] at this) wr HU4.out HW4.out
              rw [S4] at HM1
              clear HM
              go_wp2_with fail
              refine (HM1.out trivial).mono ?_
              rintro e w1 ⟨rfl, d5, u5, s5, p5, b5⟩
              have HE : Hid (Ur w1 g z d5 ∧ (Pre K S (q + 1) d5 ∧ Suf K s b n d5) ∧ Sort.PermIn 0 n d d5 ∧ Bg g w w1) := ⟨u5, ⟨HPR.out.snoc HQ.out (fun k hk => p5.2.1 k (by omega)) (by rw [← HB.out]; exact s5), by have := HSF.out.tail.tail; rw [show a + s + s = b by omega] at this; exact this.congr fun k hk => p5.2.1 k (by omega)⟩, Sort.permIn_trans _ _ _ _ _ HPM.out (Sort.permIn_mono _ _ _ _ _ _ (by omega) (by omega) (by omega) p5), HBG.out.trans b5⟩
              clear u5 s5 p5 b5 HM1
              go_wp2_with fail
              go_roundw
              case rel => exact ⟨q + 1, b, b + S, d5, rfl, by go_num, by rw [Nat.succ_mul]; have := HQ.out; omega, HE.out⟩
              case measure => simp [natOf]; omega
            · have q4 : ¬ (b : Int) ≤ (n : Int) := by omega
              by_cases hmn : m < n
              · have q5 : (m : Int) < (n : Int) := by omega
                have HM1 : Hid (∀ _ : True, _) := fun _ => HM.out (n - a) a m n d4 (Nat.le_refl _) (by omega) (by omega) (by omega) (by omega) HO4.out (by have := HSF.out.head; rwa [hm, Nat.min_eq_left (by omega)] at this) (by have := HSF.out.tail.head; rwa [hm, show m + s = b by omega, Nat.min_eq_right (by omega)] at this) wr HU4.out HW4.out
                rw [S4] at HM1
                clear HM
                go_wp2_with fail
                refine (HM1.out trivial).mono ?_
                rintro e w1 ⟨rfl, d5, u5, s5, p5, b5⟩
                have HE : Hid (Ur w1 g z d5 ∧ Suf K S 0 n d5 ∧ Sort.PermIn 0 n d d5 ∧ Bg g w w1) := ⟨u5, HPR.out.suf HQ.out (by omega) (fun k hk => p5.2.1 k (by omega)) s5, Sort.permIn_trans _ _ _ _ _ HPM.out (Sort.permIn_mono _ _ _ _ _ _ (by omega) (by omega) (by omega) p5), HBG.out.trans b5⟩
                clear u5 s5 p5 b5 HM1
                go_wp2_with fail
                go_roundw
                case rel => exact ⟨S, d5, by go_num, by omega, HE.out⟩
                case measure => simp [natOf]; omega
              · have q5 : ¬ (m : Int) < (n : Int) := by omega
                have HE : Hid (Ur wr g z d4 ∧ Suf K S 0 n d4 ∧ Sort.PermIn 0 n d d4 ∧ Bg g w wr) := ⟨HU4.out, HPR.out.suf HQ.out (by omega) (fun k hk => rfl) (by have := HSF.out.head; rwa [hm, Nat.min_eq_right (by omega)] at this), HPM.out, HBG.out⟩
                clear HM
                go_wp2_with fail
                go_roundw
                case rel => exact ⟨S, d4, by go_num, by omega, HE.out⟩
                case measure => simp [natOf]; omega
        · have q1 : ¬ (s : Int) < (n : Int) := by omega
          go_wp2_with fail
          refine bodyPost_end (results_none rfl _ _ _) rfl ?_
          refine ⟨rfl, d3, HU3.out, ?_, HPM.out, HBG.out⟩
          have := HSF.out.head
          rwa [Nat.zero_add, Nat.min_eq_right (by omega)] at this
end Go.Proofs.Ytaiiclkfnahghaa.Rq
/- Rows of their own are sorted; the rows of a way through them, by rising ids. -/
namespace Go.Proofs.Ytaiiclkfnahghaa.Rq
open Go.RowKit Go.Lib Go.Shelf
open Go.Proofs.Ytaiiclkfnahghaa.Rc
set_option maxRecDepth 100000 in
theorem perm_list {l : List Rw} {d' : Array Rw} (h : Sort.PermIn 0 l.length l.toArray d') : d'.toList.Perm l := by
  obtain ⟨h1, -, h3⟩ := h
  have e1 : d'.extract 0 l.length = d' := by
    have : l.length = d'.size := by rw [h1]; simp
    rw [this]; simp
  rw [e1] at h3
  simpa using h3
set_option maxRecDepth 100000 in
theorem srt_list {K : Rw → Nat} {n : Nat} {d' : Array Rw} (hn : d'.size = n) (h : Srt K 0 n d') : d'.toList.Pairwise fun a b => K a ≤ K b := by
  rw [List.pairwise_iff_getElem]
  intro i j hi hj hij
  have hi' : i < d'.size := by simpa using hi
  have hj' : j < d'.size := by simpa using hj
  have := h i j (by omega) hij (by omega)
  rw [getElem!_pos d' i hi', getElem!_pos d' j hj'] at this
  simpa using this
set_option maxRecDepth 100000 in
set_option maxHeartbeats 1000000 in
theorem stable_nil (sv : Value) (cf : Nat) (cb : Array Value) (w : World) :
    Calls Try.prog 80 #[sv, .int .i64 0, .func (.func cf) #[] cb] w fun e w' => e = .returned (.tuple #[]) ∧ Below w.heap.size w w' := by
  have HI : Hid (∀ w : World, Calls Try.prog 90 #[sv, .int .i64 0, .int .i64 0, .func (.func cf) #[] cb] w fun e w' => e = .returned (.tuple #[]) ∧ w' = w) := by
    refine (?_ : ∀ w : World, _)
    intro w
    go_enter Try.func90, Try.ntmps90
    go_wp2_with fail
    refine wp_loop_rounds 1 ?_
    rw [rounds_succ]
    go_wp2_with fail
    refine bodyPost_end (results_none rfl _ _ _) rfl ?_
    exact ⟨rfl, rfl⟩
  go_enter Try.func80, Try.ntmps80
  go_wp2_with fail
  refine wp_loop_rounds 1 ?_
  rw [rounds_succ]
  go_wp2_with fail
  refine (HI.out _).mono ?_
  rintro e w1 ⟨rfl, rfl⟩
  go_wp2_with fail
  refine wp_loop_rounds 1 ?_
  rw [rounds_succ]
  go_wp2_with fail
  refine bodyPost_end (results_none rfl _ _ _) rfl ?_
  exact ⟨rfl, Below.refl _ _⟩
/-- What a sort makes of rows of their own. -/
def Sorts (K : Rw → Nat) (base : Nat) (v : Value) (l : List Rw) (w w' : World) : Prop :=
  ∃ m : List Rw, m.Perm l ∧ (m.Pairwise fun a b => K a ≤ K b) ∧ w'.ownsRow base 26 4 v m.length (m.flatMap rc) ∧ Below base w w'
set_option maxRecDepth 100000 in
theorem stable_own (w0 : World) (ok : Rw → Prop) (K : Rw → Nat) (cf : Nat) (cb : Array Value) (hC : Cmp w0 ok (ltK K) cf cb) (base : Nat) (hg : w0.heap.size ≤ base) (l : List Rw) (hl : l.length ≤ 1000000) (hok : ∀ r, r ∈ l → ok r) (v : Value) (w : World) (h : w.ownsRow base 26 4 v l.length (l.flatMap rc)) (hw : Below w0.heap.size w0 w) (hbase : base ≤ w.heap.size) :
    Calls Try.prog 80 #[v, .int .i64 (l.length : Int), .func (.func cf) #[] cb] w fun e w' => e = .returned (.tuple #[]) ∧ Sorts K base v l w w' := by
  by_cases hnil : l = []
  · subst hnil
    refine (stable_nil v cf cb w).mono ?_
    rintro e w' ⟨rfl, b⟩
    refine ⟨rfl, [], List.Perm.refl _, List.Pairwise.nil, ?_, b.mono hbase⟩
    rcases h.2 with ⟨rfl, -⟩ | ⟨g, cap, cur, rfl, h2, h3, h4⟩
    · exact ⟨rfl, .inl ⟨rfl, rfl⟩⟩
    · exact ⟨rfl, .inr ⟨g, cap, cur, rfl, h2, (b.block g (Array.getElem?_eq_some_iff.1 h3).1).trans h3, h4⟩⟩
  · obtain ⟨g, cap, rfl, hgb, hu⟩ := ur_of_own h hnil
    have hs : l.toArray.size = l.length := by simp
    have hX := stableR_any w0 ok K cf cb hC g (cap * 4) cap (by omega) l.toArray (by omega) (fun i hi => hok _ (by rw [getElem!_pos l.toArray i hi]; simp)) w hu hw
    rw [hs] at hX
    refine hX.mono ?_
    rintro e w' ⟨rfl, d', u', s', p', b'⟩
    have hd' : d'.size = l.length := by rw [p'.1, hs]
    have hm : d'.toList.length = l.length := by simpa using hd'
    refine ⟨rfl, d'.toList, perm_list p', srt_list hd' s', ?_, ?_⟩
    · have := own_of_ur h (m := d'.toList) (by simpa using u') hm
      rwa [hm] at this ⊢
    · exact b'.below (fun k hk => by omega) hbase
set_option maxRecDepth 100000 in
theorem own_slice {w : World} {base n : Nat} {v : Value} {xs : List Value} (h : w.ownsRow base 26 4 v n xs) : ∃ po cap, v = .slice po n cap := by
  rcases h.2 with ⟨rfl, rfl⟩ | ⟨g, cap, cur, rfl, -⟩
  · exact ⟨_, _, rfl⟩
  · exact ⟨_, _, rfl⟩
set_option maxRecDepth 100000 in
set_option maxHeartbeats 1000000 in
theorem sortR_any (w0 : World) (ok : Rw → Prop) (K : Rw → Nat) (cf : Nat) (cb : Array Value) (hC : Cmp w0 ok (ltK K) cf cb) (base : Nat) (hg : w0.heap.size ≤ base) (l : List Rw) (hl : l.length ≤ 1000000) (hok : ∀ r, r ∈ l → ok r) (v : Value) (w : World) (h : w.ownsRow base 26 4 v l.length (l.flatMap rc)) (hw : Below w0.heap.size w0 w) (hbase : base ≤ w.heap.size) :
    Calls Try.prog 51 #[v, .func (.func cf) #[] cb] w fun e w' => e = .returned (.tuple #[]) ∧ Sorts K base v l w w' := by
  have HC : Hid (∀ _ : True, _) := fun _ => stable_own w0 ok K cf cb hC base hg l hl hok v w h hw hbase
  obtain ⟨po, cap, rfl⟩ := own_slice h
  clear hC hg hok h hw hbase
  obtain ⟨n, hn⟩ : ∃ n, l.length = n := ⟨_, rfl⟩
  rw [hn] at HC ⊢
  have q1 : (n : Int) ≤ 1000000 := by omega
  clear hn hl
  go_enter Try.func51, Try.ntmps51
  go_wp2_with fail
  refine Calls.mono (HC.out trivial) ?_
  rintro e w1 ⟨rfl, h1⟩
  have HS : Hid _ := h1
  clear h1 HC
  go_wp2_with fail
  refine bodyPost_end (results_none rfl _ _ _) rfl ?_
  exact ⟨rfl, HS.out⟩
set_option maxRecDepth 100000 in
set_option maxHeartbeats 1000000 in
theorem sortedR_any (w0 : World) (rs : List Rw) (gf : Nat) (lb : Array Value) (hit : RowsIter w0 rs gf lb) (heg : ∀ args w, (callFunc gf args).run Try.prog w = .ok (.enter gf args) w) (hmax : rs.length ≤ 1000) (ok : Rw → Prop) (K : Rw → Nat) (cf : Nat) (cb : Array Value) (hC : Cmp w0 ok (ltK K) cf cb) (hok : ∀ r, r ∈ rs → ok r) (w : World) (hw : Below w0.heap.size w0 w) :
    Calls Try.prog 71 #[.func (.func gf) #[] lb, .func (.func cf) #[] cb] w fun e w' => ∃ v, e = .returned v ∧ Sorts K w.heap.size v rs w w' := by
  have HC : Hid _ := collect_any w0 rs gf lb hit heg hmax
  have HR : Hid _ := sortR_any w0 ok K cf cb hC w.heap.size hw.size rs (by omega) hok
  have HW : Hid (Below w0.heap.size w0 w) := hw
  clear hit heg hC hok hmax hw
  go_enter Try.func71, Try.ntmps71
  go_wp2_with fail
  refine (HC.out w HW.out).mono ?_
  rintro e w1 ⟨v, rfl, h1, h2⟩
  have HR1 : Hid (∀ _ : True, _) := fun _ => HR.out v w1 h1 (HW.out.trans (h2.mono HW.out.size)) h2.size
  have HB1 : Hid _ := h2
  clear h1 h2 HR HC
  go_wp2_with fail
  refine Calls.mono (HR1.out trivial) ?_
  rintro e w2 ⟨rfl, m, hp, hs, ho, hb⟩
  have HE : Hid (Sorts K w.heap.size v rs w w2) := ⟨m, hp, hs, ho, HB1.out.trans hb⟩
  clear hp hs ho hb HR1 HB1
  go_wp2_with fail
  go_ret
  exact ⟨_, rfl, HE.out⟩
set_option maxRecDepth 100000 in
theorem cmp_byId (w0 : World) : Cmp w0 (fun _ => True) (ltK Rw.id) 72 #[] :=
  ⟨fun _ _ => rfl, fun W _ a b _ _ => (byId1_any a b W).mono fun e W' ⟨h1, h2⟩ => ⟨_, h1, by unfold cmpS ltK; by_cases c : a.id < b.id <;> by_cases c2 : b.id < a.id <;> simp [c, c2], h2⟩⟩
set_option maxRecDepth 100000 in
set_option maxHeartbeats 1000000 in
theorem byId_any (w0 : World) (rs : List Rw) (gf : Nat) (lb : Array Value) (hit : RowsIter w0 rs gf lb) (heg : ∀ args w, (callFunc gf args).run Try.prog w = .ok (.enter gf args) w) (hmax : rs.length ≤ 1000) (w : World) (hw : Below w0.heap.size w0 w) :
    Calls Try.prog 37 #[.func (.func gf) #[] lb] w fun e w' => ∃ v, e = .returned v ∧ Sorts Rw.id w.heap.size v rs w w' := by
  have HC : Hid (∀ _ : True, _) := fun _ => sortedR_any w0 rs gf lb hit heg hmax _ _ _ _ (cmp_byId w0) (fun _ _ => trivial) w hw
  clear hit heg hmax hw
  go_enter Try.func37, Try.ntmps37
  go_wp2_with fail
  refine Calls.mono (HC.out trivial) ?_
  rintro e w1 ⟨v, rfl, h1⟩
  have HE : Hid _ := h1
  clear h1 HC
  go_wp2_with fail
  go_ret
  exact ⟨_, rfl, HE.out⟩
end Go.Proofs.Ytaiiclkfnahghaa.Rq
