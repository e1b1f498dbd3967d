/- The stable sort of pieces. -/
import Derived.Test.YtimdlohdmddnjaaPBT
import Derived.Test.YtimdlohdmddnjaaQBK
namespace Go.Proofs.Ytimdlohdmddnjaa.Rq.Pz
open Go.RowKit Go.Lib Go.Shelf
open Go.Proofs.Ytimdlohdmddnjaa.Rc Go.Proofs.Ytimdlohdmddnjaa.Rq
set_option maxRecDepth 100000 in
set_option maxHeartbeats 4000000 in
theorem stableR_any (w0 : World) (ok : Pc → Prop) (K : Pc → Nat) (cf : Nat) (cb : Array Value) (hC : Cmp w0 ok (ltK K) cf cb) (g z cap : Nat) (hg : w0.heap.size ≤ g) (d : Array Pc) (hd : d.size ≤ 1000000) (hok : ∀ i, i < d.size → ok d[i]!) (w : World) (h : Ur w g z d) (hW : Below w0.heap.size w0 w) :
    Calls Try.prog 90 #[.slice (some ⟨g, 0, none⟩) d.size cap, .int .i64 (d.size : Int), .func (.func cf) #[] cb] w fun e w' => e = .returned (.tuple #[]) ∧ ∃ d', Ur w' g z d' ∧ Srt K 0 d.size d' ∧ Sort.PermIn 0 d.size d d' ∧ Bg g w w' := by
  have HU : Hid (Ur w g z d) := h
  have HW : Hid (Below w0.heap.size w0 w) := hW
  have HOK : Hid (∀ i, i < d.size → ok d[i]!) := hok
  have HI : Hid _ := insR_any w0 ok (ltK K) cf cb hC g z cap
  have HM : Hid _ := symR_any w0 ok K cf cb hC g z cap hg
  clear h hW hC hok
  obtain ⟨n, hsz⟩ : ∃ n, d.size = n := ⟨_, rfl⟩
  rw [hsz] at hd ⊢
  go_enter Try.func90, Try.ntmps90
  go_wp2_with fail
  go_loopw [7, 8] (fun av bv wr => ∃ (q a b : Nat) (d1 : Array Pc), av = .int .i64 (a : Int) ∧ bv = .int .i64 (b : Int) ∧ (a = q * 20 ∧ b = a + 20 ∧ a ≤ n) ∧ Ur wr g z d1 ∧ Pre K 20 q d1 ∧ Sort.PermIn 0 n d d1 ∧ Bg g w wr) (fun _ bv _ => n + 20 - natOf bv)
  case atStart => exact ⟨0, 0, 20, d, rfl, rfl, by omega, HU.out, Pre.zero _ _ _, Sort.permIn_refl _ _ _, But.refl _ _⟩
  case round =>
    obtain ⟨q, a, b, d1, rfl, rfl, ⟨hq', rfl, han⟩, hu, hpre, hpm, hbg⟩ := hrel
    have HQ : Hid (a = q * 20) := hq'
    clear hq'
    have S1 : d1.size = n := hpm.1.trans hsz
    have HU1 : Hid (Ur wr g z d1) := hu
    have HPR : Hid (Pre K 20 q d1) := hpre
    have HPM : Hid (Sort.PermIn 0 n d d1) := hpm
    have HBG : Hid (Bg g w wr) := hbg
    have HO1 : Hid (∀ i, i < d1.size → ok d1[i]!) := ok_perm (by omega) hpm HOK.out
    have HW1 : Hid (Below w0.heap.size w0 wr) := below_bg hg HW.out hbg
    clear hu hpre hpm hbg
    by_cases hlt : a + 20 ≤ n
    · have q1 : ((a + 20 : Nat) : Int) ≤ (n : Int) := by omega
      have HI1 : Hid (∀ _ : True, _) := fun _ => HI.out a (a + 20) d1 HO1.out (by omega) (by omega) (by omega) wr HU1.out hg HW1.out
      rw [S1] at HI1
      have HF : Hid (Sort.PermIn a (a + 20) d1 (Sort.insertionSort (ltK K) d1 a (a + 20)) ∧ Srt K a (a + 20) (Sort.insertionSort (ltK K) d1 a (a + 20))) := ins_key K d1 a (a + 20) (by omega) (by omega)
      obtain ⟨b, hb⟩ : ∃ b, a + 20 = b := ⟨_, rfl⟩
      rw [hb] at HI1 HF q1 ⊢
      clear HI
      go_wp2_with fail
      refine (HI1.out trivial).mono ?_
      rintro e w1 ⟨rfl, u2, b2⟩
      have q2 : IntKind.i64.wrap ((b : Int) + 20) = ((b + 20 : Nat) : Int) := by rw [wrap_i64 (by omega) (by omega)]; omega
      generalize Sort.insertionSort (ltK K) d1 a b = d2 at u2 HF
      have HE : Hid (Ur w1 g z d2 ∧ Pre K 20 (q + 1) d2 ∧ Sort.PermIn 0 n d d2 ∧ Bg g w w1) := ⟨u2, HPR.out.snoc HQ.out (fun k hk => HF.out.1.2.1 k (by omega)) (by rw [hb]; exact HF.out.2), Sort.permIn_trans _ _ _ _ _ HPM.out (Sort.permIn_mono _ _ _ _ _ _ (by omega) (by omega) (by omega) HF.out.1), HBG.out.trans b2⟩
      clear u2 b2 HI1 HF
      go_wp2_with fail
      go_roundw
      case rel => exact ⟨q + 1, b, b + 20, d2, rfl, by go_num, by have := HQ.out; omega, HE.out⟩
      case measure => simp [natOf]; omega
    · have q1 : ¬ ((a + 20 : Nat) : Int) ≤ (n : Int) := by omega
      have HI1 : Hid (∀ _ : True, _) := fun _ => HI.out a n d1 HO1.out (by omega) (by omega) (by omega) wr HU1.out hg HW1.out
      rw [S1] at HI1
      have HF : Hid (Sort.PermIn a n d1 (Sort.insertionSort (ltK K) d1 a n) ∧ Srt K a n (Sort.insertionSort (ltK K) d1 a n)) := ins_key K d1 a n (by omega) (by omega)
      obtain ⟨b, hb⟩ : ∃ b, a + 20 = b := ⟨_, rfl⟩
      rw [hb] at q1 ⊢
      clear HI
      go_wp2_with fail
      refine (HI1.out trivial).mono ?_
      rintro e w1 ⟨rfl, u2, b2⟩
      generalize Sort.insertionSort (ltK K) d1 a n = d2 at u2 HF
      have HE : Hid (Ur w1 g z d2 ∧ Suf K 20 0 n d2 ∧ Sort.PermIn 0 n d d2 ∧ Bg g w w1) := ⟨u2, HPR.out.suf HQ.out (by omega) (fun k hk => HF.out.1.2.1 k (by omega)) HF.out.2, Sort.permIn_trans _ _ _ _ _ HPM.out (Sort.permIn_mono _ _ _ _ _ _ (by omega) (by omega) (by omega) HF.out.1), HBG.out.trans b2⟩
      clear u2 b2 HI1 HF HPR HPM HBG HO1 HW1 HU1 q1 hlt hb HQ han S1
      go_wp2_with fail
      go_loopw [6] (fun sv wr => ∃ (s : Nat) (d1 : Array Pc), sv = .int .i64 (s : Int) ∧ (0 < s ∧ (s = 20 ∨ s < 2 * n)) ∧ Ur wr g z d1 ∧ Suf K s 0 n d1 ∧ Sort.PermIn 0 n d d1 ∧ Bg g w wr) (fun sv _ => n - natOf sv)
      case atStart => exact ⟨20, d2, rfl, by omega, HE.out⟩
      case round =>
        obtain ⟨s, d3, rfl, ⟨hs0, hs1⟩, hu, hsuf, hpm, hbg⟩ := hrel
        clear HE
        have S3 : d3.size = n := hpm.1.trans hsz
        have HU3 : Hid (Ur wr g z d3) := hu
        have HSF : Hid (Suf K s 0 n d3) := hsuf
        have HPM : Hid (Sort.PermIn 0 n d d3) := hpm
        have HBG : Hid (Bg g w wr) := hbg
        clear hu hsuf hpm hbg
        by_cases hsn : s < n
        · have q1 : (s : Int) < (n : Int) := by omega
          obtain ⟨S, hS⟩ : ∃ S, 2 * s = S := ⟨_, rfl⟩
          have q2 : IntKind.i64.wrap (2 * (s : Int)) = (S : Int) := by rw [wrap_i64 (by omega) (by omega)]; omega
          have q2' : IntKind.i64.wrap ((s : Int) * 2) = (S : Int) := by rw [wrap_i64 (by omega) (by omega)]; omega
          go_wp2_with fail
          go_loopw [7, 8] (fun av bv wr => ∃ (q a b : Nat) (d4 : Array Pc), av = .int .i64 (a : Int) ∧ bv = .int .i64 (b : Int) ∧ (a = q * S ∧ b = a + S ∧ a ≤ n) ∧ Ur wr g z d4 ∧ (Pre K S q d4 ∧ Suf K s a n d4) ∧ Sort.PermIn 0 n d d4 ∧ Bg g w wr) (fun _ bv _ => n + S - natOf bv)
          case atStart => exact ⟨0, 0, S, d3, rfl, rfl, by omega, HU3.out, ⟨Pre.zero _ _ _, HSF.out⟩, HPM.out, HBG.out⟩
          case round =>
            obtain ⟨q, a, b, d4, rfl, rfl, ⟨hq', hb', han⟩, hu, ⟨hpre, hsuf⟩, hpm, hbg⟩ := hrel
            have HQ : Hid (a = q * S) := hq'
            have HB : Hid (b = a + S) := hb'
            have hb1 : b ≤ a + S := by omega
            have hb2 : a + S ≤ b := by omega
            clear hq' hb'
            clear HU3 HSF HPM HBG
            have S4 : d4.size = n := hpm.1.trans hsz
            have HU4 : Hid (Ur wr g z d4) := hu
            have HPR : Hid (Pre K S q d4) := hpre
            have HSF : Hid (Suf K s a n d4) := hsuf
            have HPM : Hid (Sort.PermIn 0 n d d4) := hpm
            have HBG : Hid (Bg g w wr) := hbg
            have HO4 : Hid (∀ i, i < d4.size → ok d4[i]!) := ok_perm (by omega) hpm HOK.out
            have HW4 : Hid (Below w0.heap.size w0 wr) := below_bg hg HW.out hbg
            clear hu hpre hsuf hpm hbg
            obtain ⟨m, hm⟩ : ∃ m, a + s = m := ⟨_, rfl⟩
            have q3 : IntKind.i64.wrap ((a : Int) + (s : Int)) = (m : Int) := by rw [wrap_i64 (by omega) (by omega)]; omega
            by_cases hlt : b ≤ n
            · have q4 : (b : Int) ≤ (n : Int) := by omega
              have q5 : IntKind.i64.wrap ((b : Int) + (S : Int)) = ((b + S : Nat) : Int) := by rw [wrap_i64 (by omega) (by omega)]; omega
              have HM1 : Hid (∀ _ : True, _) := fun _ => HM.out (b - a) a m b d4 (Nat.le_refl _) (by omega) (by omega) (by omega) (by omega) HO4.out (by have := HSF.out.head; rwa [hm, Nat.min_eq_left (by omega)] at this) (by have := HSF.out.tail.head; rwa [hm, show m + s = b by omega, Nat.min_eq_left (by omega)] at this) wr HU4.out HW4.out
              rw [S4] at HM1
              clear HM
              go_wp2_with fail
              refine (HM1.out trivial).mono ?_
              rintro e w1 ⟨rfl, d5, u5, s5, p5, b5⟩
              have HE : Hid (Ur w1 g z d5 ∧ (Pre K S (q + 1) d5 ∧ Suf K s b n d5) ∧ Sort.PermIn 0 n d d5 ∧ Bg g w w1) := ⟨u5, ⟨HPR.out.snoc HQ.out (fun k hk => p5.2.1 k (by omega)) (by rw [← HB.out]; exact s5), by have := HSF.out.tail.tail; rw [show a + s + s = b by omega] at this; exact this.congr fun k hk => p5.2.1 k (by omega)⟩, Sort.permIn_trans _ _ _ _ _ HPM.out (Sort.permIn_mono _ _ _ _ _ _ (by omega) (by omega) (by omega) p5), HBG.out.trans b5⟩
              clear u5 s5 p5 b5 HM1
              go_wp2_with fail
              go_roundw
              case rel => exact ⟨q + 1, b, b + S, d5, rfl, by go_num, by rw [Nat.succ_mul]; have := HQ.out; omega, HE.out⟩
              case measure => simp [natOf]; omega
            · have q4 : ¬ (b : Int) ≤ (n : Int) := by omega
              by_cases hmn : m < n
              · have q5 : (m : Int) < (n : Int) := by omega
                have HM1 : Hid (∀ _ : True, _) := fun _ => HM.out (n - a) a m n d4 (Nat.le_refl _) (by omega) (by omega) (by omega) (by omega) HO4.out (by have := HSF.out.head; rwa [hm, Nat.min_eq_left (by omega)] at this) (by have := HSF.out.tail.head; rwa [hm, show m + s = b by omega, Nat.min_eq_right (by omega)] at this) wr HU4.out HW4.out
                rw [S4] at HM1
                clear HM
                go_wp2_with fail
                refine (HM1.out trivial).mono ?_
                rintro e w1 ⟨rfl, d5, u5, s5, p5, b5⟩
                have HE : Hid (Ur w1 g z d5 ∧ Suf K S 0 n d5 ∧ Sort.PermIn 0 n d d5 ∧ Bg g w w1) := ⟨u5, HPR.out.suf HQ.out (by omega) (fun k hk => p5.2.1 k (by omega)) s5, Sort.permIn_trans _ _ _ _ _ HPM.out (Sort.permIn_mono _ _ _ _ _ _ (by omega) (by omega) (by omega) p5), HBG.out.trans b5⟩
                clear u5 s5 p5 b5 HM1
                go_wp2_with fail
                go_roundw
                case rel => exact ⟨S, d5, by go_num, by omega, HE.out⟩
                case measure => simp [natOf]; omega
              · have q5 : ¬ (m : Int) < (n : Int) := by omega
                have HE : Hid (Ur wr g z d4 ∧ Suf K S 0 n d4 ∧ Sort.PermIn 0 n d d4 ∧ Bg g w wr) := ⟨HU4.out, HPR.out.suf HQ.out (by omega) (fun k hk => rfl) (by have := HSF.out.head; rwa [hm, Nat.min_eq_right (by omega)] at this), HPM.out, HBG.out⟩
                clear HM
                go_wp2_with fail
                go_roundw
                case rel => exact ⟨S, d4, by go_num, by omega, HE.out⟩
                case measure => simp [natOf]; omega
        · have q1 : ¬ (s : Int) < (n : Int) := by omega
          go_wp2_with fail
          refine bodyPost_end (results_none rfl _ _ _) rfl ?_
          refine ⟨rfl, d3, HU3.out, ?_, HPM.out, HBG.out⟩
          have := HSF.out.head
          rwa [Nat.zero_add, Nat.min_eq_right (by omega)] at this
set_option maxRecDepth 100000 in
theorem perm_list {l : List Pc} {d' : Array Pc} (h : Sort.PermIn 0 l.length l.toArray d') : d'.toList.Perm l := by
  obtain ⟨h1, -, h3⟩ := h
  have e1 : d'.extract 0 l.length = d' := by
    have : l.length = d'.size := by rw [h1]; simp
    rw [this]; simp
  rw [e1] at h3
  simpa using h3
set_option maxRecDepth 100000 in
theorem srt_list {K : Pc → Nat} {n : Nat} {d' : Array Pc} (hn : d'.size = n) (h : Srt K 0 n d') : d'.toList.Pairwise fun a b => K a ≤ K b := by
  rw [List.pairwise_iff_getElem]
  intro i j hi hj hij
  have hi' : i < d'.size := by simpa using hi
  have hj' : j < d'.size := by simpa using hj
  have := h i j (by omega) hij (by omega)
  rw [getElem!_pos d' i hi', getElem!_pos d' j hj'] at this
  simpa using this
set_option maxRecDepth 100000 in
set_option maxHeartbeats 1000000 in
theorem stable_nil (sv : Value) (cf : Nat) (cb : Array Value) (w : World) :
    Calls Try.prog 90 #[sv, .int .i64 0, .func (.func cf) #[] cb] w fun e w' => e = .returned (.tuple #[]) ∧ Below w.heap.size w w' := by
  have HI : Hid (∀ w : World, Calls Try.prog 97 #[sv, .int .i64 0, .int .i64 0, .func (.func cf) #[] cb] w fun e w' => e = .returned (.tuple #[]) ∧ w' = w) := by
    refine (?_ : ∀ w : World, _)
    intro w
    go_enter Try.func97, Try.ntmps97
    go_wp2_with fail
    refine wp_loop_rounds 1 ?_
    rw [rounds_succ]
    go_wp2_with fail
    refine bodyPost_end (results_none rfl _ _ _) rfl ?_
    exact ⟨rfl, rfl⟩
  go_enter Try.func90, Try.ntmps90
  go_wp2_with fail
  refine wp_loop_rounds 1 ?_
  rw [rounds_succ]
  go_wp2_with fail
  refine (HI.out _).mono ?_
  rintro e w1 ⟨rfl, rfl⟩
  go_wp2_with fail
  refine wp_loop_rounds 1 ?_
  rw [rounds_succ]
  go_wp2_with fail
  refine bodyPost_end (results_none rfl _ _ _) rfl ?_
  exact ⟨rfl, Below.refl _ _⟩
/-- What a sort makes of rows of their own. -/
def Sorts (K : Pc → Nat) (base : Nat) (v : Value) (l : List Pc) (w w' : World) : Prop :=
  ∃ m : List Pc, m.Perm l ∧ (m.Pairwise fun a b => K a ≤ K b) ∧ w'.ownsRow base 87 2 v m.length (m.flatMap pcs) ∧ But (fun k => v.ownBlock = some k) w w'
set_option maxRecDepth 100000 in
theorem stable_own (w0 : World) (ok : Pc → Prop) (K : Pc → Nat) (cf : Nat) (cb : Array Value) (hC : Cmp w0 ok (ltK K) cf cb) (base : Nat) (hg : w0.heap.size ≤ base) (l : List Pc) (hl : l.length ≤ 1000000) (hok : ∀ r, r ∈ l → ok r) (v : Value) (w : World) (h : w.ownsRow base 87 2 v l.length (l.flatMap pcs)) (hw : Below w0.heap.size w0 w) (_ : base ≤ w.heap.size) :
    Calls Try.prog 90 #[v, .int .i64 (l.length : Int), .func (.func cf) #[] cb] w fun e w' => e = .returned (.tuple #[]) ∧ Sorts K base v l w w' := by
  by_cases hnil : l = []
  · subst hnil
    refine (stable_nil v cf cb w).mono ?_
    rintro e w' ⟨rfl, b⟩
    refine ⟨rfl, [], List.Perm.refl _, List.Pairwise.nil, ?_, But.of_below b⟩
    rcases h.2 with ⟨rfl, -⟩ | ⟨g, cap, cur, rfl, h2, h3, h4⟩
    · exact ⟨rfl, .inl ⟨rfl, rfl⟩⟩
    · exact ⟨rfl, .inr ⟨g, cap, cur, rfl, h2, (b.block g (Array.getElem?_eq_some_iff.1 h3).1).trans h3, h4⟩⟩
  · obtain ⟨g, cap, rfl, hgb, hu⟩ := ur_of_own h hnil
    have hs : l.toArray.size = l.length := by simp
    have hX := stableR_any w0 ok K cf cb hC g (cap * 2) cap (by omega) l.toArray (by omega) (fun i hi => hok _ (by rw [getElem!_pos l.toArray i hi]; simp)) w hu hw
    rw [hs] at hX
    refine hX.mono ?_
    rintro e w' ⟨rfl, d', u', s', p', b'⟩
    have hd' : d'.size = l.length := by rw [p'.1, hs]
    have hm : d'.toList.length = l.length := by simpa using hd'
    refine ⟨rfl, d'.toList, perm_list p', srt_list hd' s', ?_, ?_⟩
    · have := own_of_ur h (m := d'.toList) (by simpa using u') hm
      rwa [hm] at this ⊢
    · exact b'.more fun k _ hk => by subst hk; rfl
set_option maxRecDepth 100000 in
theorem own_slice {w : World} {base n : Nat} {v : Value} {xs : List Value} (h : w.ownsRow base 87 2 v n xs) : ∃ po cap, v = .slice po n cap := by
  rcases h.2 with ⟨rfl, rfl⟩ | ⟨g, cap, cur, rfl, -⟩
  · exact ⟨_, _, rfl⟩
  · exact ⟨_, _, rfl⟩
set_option maxRecDepth 100000 in
set_option maxHeartbeats 1000000 in
theorem sortR_any (w0 : World) (ok : Pc → Prop) (K : Pc → Nat) (cf : Nat) (cb : Array Value) (hC : Cmp w0 ok (ltK K) cf cb) (base : Nat) (hg : w0.heap.size ≤ base) (l : List Pc) (hl : l.length ≤ 1000000) (hok : ∀ r, r ∈ l → ok r) (v : Value) (w : World) (h : w.ownsRow base 87 2 v l.length (l.flatMap pcs)) (hw : Below w0.heap.size w0 w) (_ : base ≤ w.heap.size) :
    Calls Try.prog 79 #[v, .func (.func cf) #[] cb] w fun e w' => e = .returned (.tuple #[]) ∧ Sorts K base v l w w' := by
  have HC : Hid (∀ _ : True, _) := fun _ => stable_own w0 ok K cf cb hC base hg l hl hok v w h hw (by assumption)
  obtain ⟨po, cap, rfl⟩ := own_slice h
  clear hC hg hok h hw
  obtain ⟨n, hn⟩ : ∃ n, l.length = n := ⟨_, rfl⟩
  rw [hn] at HC ⊢
  have q1 : (n : Int) ≤ 1000000 := by omega
  clear hn hl
  go_enter Try.func79, Try.ntmps79
  go_wp2_with fail
  refine Calls.mono (HC.out trivial) ?_
  rintro e w1 ⟨rfl, h1⟩
  have HS : Hid _ := h1
  clear h1 HC
  go_wp2_with fail
  refine bodyPost_end (results_none rfl _ _ _) rfl ?_
  exact ⟨rfl, HS.out⟩
end Go.Proofs.Ytimdlohdmddnjaa.Rq.Pz
/- How rows are compared by Near: the nearer ones ahead, of those that are as far the lesser ids. -/
namespace Go.Proofs.Ytimdlohdmddnjaa.Rq
open Go.RowKit Go.Lib Go.Shelf
open Go.Proofs.Ytimdlohdmddnjaa.Rc
/-- The place of a row in that order, as a number; M is above all ids. -/
def nkey (x y M : Nat) (r : Rw) : Nat := Rq.dist r.x r.y x y * M + r.id
def nok (M : Nat) (r : Rw) : Prop := r.id < M ∧ r.x < 2147483648 ∧ r.y < 2147483648
set_option maxRecDepth 100000 in
theorem key_lt {p q i j M : Nat} (hi : i < M) (hj : j < M) : p * M + i < q * M + j ↔ p < q ∨ (p = q ∧ i < j) := by
  rcases Nat.lt_trichotomy p q with h | h | h
  · have := Nat.mul_le_mul_right M (show p + 1 ≤ q from h)
    rw [Nat.succ_mul] at this
    constructor
    · intro _; exact .inl h
    · intro _; omega
  · subst h
    constructor
    · intro _; exact .inr ⟨rfl, by omega⟩
    · intro _; omega
  · have := Nat.mul_le_mul_right M (show q + 1 ≤ p from h)
    rw [Nat.succ_mul] at this
    constructor
    · intro _; omega
    · intro _; omega
set_option maxRecDepth 100000 in
theorem or_key (p q i j M : Nat) (hi : i < M) (hj : j < M) : decide (orS (cmpS p q) (cmpS i j) < 0) = decide (p * M + i < q * M + j) := by
  rw [decide_eq_decide, key_lt hi hj]
  unfold orS cmpS
  rcases Nat.lt_trichotomy p q with h | h | h
  · simp [h]
  · subst h
    simp
    rcases Nat.lt_trichotomy i j with h2 | h2 | h2
    · simp [h2]
    · subst h2; simp
    · have : ¬ i < j := by omega
      simp [h2, this]
  · have h1 : ¬ p < q := by omega
    have h2 : ¬ p = q := by omega
    simp [h, h1, h2]
/-- A point's two blocks. -/
structure Pt2 (w : World) (g1 g2 x y : Nat) : Prop where
  x : w.heap[g1]? = some (.cells #[.int .u32 (x : Int)] 22 (0, 0))
  y : w.heap[g2]? = some (.cells #[.int .u32 (y : Int)] 22 (0, 0))
set_option maxRecDepth 100000 in
theorem Pt2.grow {w W : World} {B g1 g2 x y : Nat} (h : Pt2 w g1 g2 x y) (hW : Below B w W) (hB : w.heap.size ≤ B) : Pt2 W g1 g2 x y :=
  ⟨(hW.block _ (Nat.lt_of_lt_of_le (Array.getElem?_eq_some_iff.1 h.x).1 hB)).trans h.x, (hW.block _ (Nat.lt_of_lt_of_le (Array.getElem?_eq_some_iff.1 h.y).1 hB)).trans h.y⟩
/-- The two rows and the point, in cells. -/
def NS (g1 g2 ga gb x y i a b : Nat) (v : ByteArray) (j c d : Nat) (u : ByteArray) (w : World) : Prop :=
  (w.cell? ⟨g1, 0, none⟩ = some (.int .u32 (x : Int)) ∧ w.cell? ⟨g2, 0, none⟩ = some (.int .u32 (y : Int))) ∧
  (w.cell? ⟨ga, 0, none⟩ = some (.int .u64 (i : Int)) ∧ w.cell? ⟨ga, 1, none⟩ = some (.int .u32 (a : Int)) ∧ w.cell? ⟨ga, 2, none⟩ = some (.int .u32 (b : Int)) ∧ w.cell? ⟨ga, 3, none⟩ = some (.string v)) ∧
  (w.cell? ⟨gb, 0, none⟩ = some (.int .u64 (j : Int)) ∧ w.cell? ⟨gb, 1, none⟩ = some (.int .u32 (c : Int)) ∧ w.cell? ⟨gb, 2, none⟩ = some (.int .u32 (d : Int)) ∧ w.cell? ⟨gb, 3, none⟩ = some (.string u))
set_option maxRecDepth 100000 in
theorem NS.same {g1 g2 ga gb x y i a b : Nat} {v : ByteArray} {j c d : Nat} {u : ByteArray} {w w' : World} (h : NS g1 g2 ga gb x y i a b v j c d u w) (e1 : w'.heap[g1]? = w.heap[g1]?) (e2 : w'.heap[g2]? = w.heap[g2]?) (e3 : w'.heap[ga]? = w.heap[ga]?) (e4 : w'.heap[gb]? = w.heap[gb]?) : NS g1 g2 ga gb x y i a b v j c d u w' := by
  obtain ⟨⟨h1, h2⟩, ⟨h3, h4, h5, h6⟩, h7, h8, h9, h10⟩ := h
  exact ⟨⟨(World.cell?_of_block (a := ⟨g1, 0, none⟩) e1).trans h1, (World.cell?_of_block (a := ⟨g2, 0, none⟩) e2).trans h2⟩,
    ⟨(World.cell?_of_block (a := ⟨ga, 0, none⟩) e3).trans h3, (World.cell?_of_block (a := ⟨ga, 1, none⟩) e3).trans h4, (World.cell?_of_block (a := ⟨ga, 2, none⟩) e3).trans h5, (World.cell?_of_block (a := ⟨ga, 3, none⟩) e3).trans h6⟩,
    (World.cell?_of_block (a := ⟨gb, 0, none⟩) e4).trans h7, (World.cell?_of_block (a := ⟨gb, 1, none⟩) e4).trans h8, (World.cell?_of_block (a := ⟨gb, 2, none⟩) e4).trans h9, (World.cell?_of_block (a := ⟨gb, 3, none⟩) e4).trans h10⟩
/-- What is known of a world on the way. -/
structure NW (w W : World) (g1 g2 ga gb x y i a b : Nat) (v : ByteArray) (j c d : Nat) (u : ByteArray) : Prop where
  ns : NS g1 g2 ga gb x y i a b v j c d u W
  bel : Below w.heap.size w W
  l1 : g1 < W.heap.size
  l2 : g2 < W.heap.size
  l3 : ga < W.heap.size
  l4 : gb < W.heap.size
set_option maxRecDepth 100000 in
theorem NW.grow {w W W' : World} {g1 g2 ga gb x y i a b : Nat} {v : ByteArray} {j c d : Nat} {u : ByteArray} (h : NW w W g1 g2 ga gb x y i a b v j c d u) (hb : Below W.heap.size W W') : NW w W' g1 g2 ga gb x y i a b v j c d u :=
  ⟨h.ns.same (hb.block _ h.l1) (hb.block _ h.l2) (hb.block _ h.l3) (hb.block _ h.l4), h.bel.trans (hb.mono h.bel.size), Nat.lt_of_lt_of_le h.l1 hb.size, Nat.lt_of_lt_of_le h.l2 hb.size, Nat.lt_of_lt_of_le h.l3 hb.size, Nat.lt_of_lt_of_le h.l4 hb.size⟩
set_option maxRecDepth 100000 in
set_option maxHeartbeats 8000000 in
theorem near1_any (ra rb : Rw) (g1 g2 x y : Nat) (hra : ra.x < 2147483648 ∧ ra.y < 2147483648) (hrb : rb.x < 2147483648 ∧ rb.y < 2147483648) (hx : x < 2147483648) (hy : y < 2147483648) (w : World) (hp : Pt2 w g1 g2 x y) :
    Calls Try.prog 44 #[rv ra, rv rb, .pointer (some ⟨g1, 0, none⟩), .pointer (some ⟨g2, 0, none⟩)] w fun e w' => e = .returned (.int .i64 (orS (cmpS (Rq.dist ra.x ra.y x y) (Rq.dist rb.x rb.y x y)) (cmpS ra.id rb.id))) ∧ Below w.heap.size w w' := by
  obtain ⟨i, a, b, v⟩ := ra
  obtain ⟨j, c, d, u⟩ := rb
  have HF1 : Hid _ := qfar_any i a b v x y hra.1 hra.2 hx hy
  have HF2 : Hid _ := qfar_any j c d u x y hrb.1 hrb.2 hx hy
  obtain ⟨p, hpd⟩ : ∃ p, Rq.dist a b x y = p := ⟨_, rfl⟩
  obtain ⟨q, hqd⟩ : ∃ q, Rq.dist c d x y = q := ⟨_, rfl⟩
  have HC1 : Hid _ := compare_any p q
  have HC2 : Hid _ := compare_any i j
  simp only [rv] at HF1 HF2 ⊢
  rw [hpd] at HF1 ⊢
  rw [hqd] at HF2 ⊢
  obtain ⟨z1, hz1⟩ : ∃ z1, cmpS p q = z1 := ⟨_, rfl⟩
  obtain ⟨z2, hz2⟩ : ∃ z2, cmpS i j = z2 := ⟨_, rfl⟩
  rw [hz1] at HC1 ⊢
  rw [hz2] at HC2 ⊢
  obtain ⟨y1, y2, y3⟩ := two_new w (.cells #[.int .u64 (i : Int), .int .u32 (a : Int), .int .u32 (b : Int), .string v] 54) (.cells #[.int .u64 (j : Int), .int .u32 (c : Int), .int .u32 (d : Int), .string u] 54)
  obtain ⟨W1, hW1⟩ : ∃ W1, (w.alloc (.cells #[.int .u64 (i : Int), .int .u32 (a : Int), .int .u32 (b : Int), .string v] 54)).alloc (.cells #[.int .u64 (j : Int), .int .u32 (c : Int), .int .u32 (d : Int), .string u] 54) = W1 := ⟨_, rfl⟩
  rw [hW1] at y1 y2 y3
  have hp1 := hp.grow y3 (Nat.le_refl _)
  have HW1 : Hid _ := hW1
  have HN0 : Hid (NW w W1.drew g1 g2 w.heap.size (w.heap.size + 1) x y i a b v j c d u) := ⟨⟨⟨by rw [World.cell?_of_block (a := ⟨g1, 0, none⟩) (show W1.drew.heap[g1]? = W1.heap[g1]? from rfl), cell_of_row _ _ _ _ _ _ hp1.x]; rfl, by rw [World.cell?_of_block (a := ⟨g2, 0, none⟩) (show W1.drew.heap[g2]? = W1.heap[g2]? from rfl), cell_of_row _ _ _ _ _ _ hp1.y]; rfl⟩, four_facts y1, four_facts y2⟩, y3.trans ⟨rfl, rfl, rfl, Nat.le_refl _, fun _ _ => rfl⟩, (Array.getElem?_eq_some_iff.1 hp1.x).1, (Array.getElem?_eq_some_iff.1 hp1.y).1, (Array.getElem?_eq_some_iff.1 y1).1, (Array.getElem?_eq_some_iff.1 y2).1⟩
  have HSW : Hid (NS g1 g2 w.heap.size (w.heap.size + 1) x y i a b v j c d u W1.drew) := HN0.out.ns
  clear hra hrb hx hy hpd hqd hz1 hz2 y1 y2 y3 hp1 hW1 hp
  go_enter Try.func44, Try.ntmps44
  go_wp2_with fail
  rw [HW1.out]
  clear HW1
  refine wp_region_held (S := NS g1 g2 w.heap.size (w.heap.size + 1) x y i a b v j c d u) (by kernel_rfl) ?_
  change wpAnyH _ _ _ _ _ _ _ _ (World.drew _)
  refine wpAnyH_take (i := 0) (v := ?_) rfl (by kernel_rfl) (by kernel_rfl) (by kernel_rfl) (fun _ _ _ h => h) (Or.inl ⟨by kernel_rfl, ?_⟩) HSW.out ?_
  rotate_left
  · intro w hS
    obtain ⟨⟨e1, e2⟩, ⟨e3, e4, e5, e6⟩, e7, e8, e9, e10⟩ := hS
    go_simp
    try with_reducible rfl
  conv in (Act.put _ _ _) => simp only [List.getElem_toArray, List.getElem_cons_succ, List.getElem_cons_zero, Act.put, List.setIfInBounds_toArray, List.set_cons_succ, List.set_cons_zero]
  refine wpAnyH_take (i := 1) (v := ?_) rfl (by kernel_rfl) (by kernel_rfl) (by kernel_rfl) (fun _ _ _ h => h) (Or.inl ⟨by kernel_rfl, ?_⟩) HSW.out ?_
  rotate_left
  · intro w hS
    obtain ⟨⟨e1, e2⟩, ⟨e3, e4, e5, e6⟩, e7, e8, e9, e10⟩ := hS
    go_simp
    try with_reducible rfl
  conv in (Act.put _ _ _) => simp only [List.getElem_toArray, List.getElem_cons_succ, List.getElem_cons_zero, Act.put, List.setIfInBounds_toArray, List.set_cons_succ, List.set_cons_zero]
  refine wpAnyH_take (i := 2) (v := ?_) rfl (by kernel_rfl) (by kernel_rfl) (by kernel_rfl) (fun _ _ _ h => h) (Or.inl ⟨by kernel_rfl, ?_⟩) HSW.out ?_
  rotate_left
  · intro w hS
    obtain ⟨⟨e1, e2⟩, ⟨e3, e4, e5, e6⟩, e7, e8, e9, e10⟩ := hS
    go_simp
    try with_reducible rfl
  conv in (Act.put _ _ _) => simp only [List.getElem_toArray, List.getElem_cons_succ, List.getElem_cons_zero, Act.put, List.setIfInBounds_toArray, List.set_cons_succ, List.set_cons_zero]
  refine wpAnyH_take (i := 4) (v := ?_) rfl (by kernel_rfl) (by kernel_rfl) (by kernel_rfl) (fun _ _ _ h => h) (Or.inl ⟨by kernel_rfl, ?_⟩) HSW.out ?_
  rotate_left
  · intro w hS
    obtain ⟨⟨e1, e2⟩, ⟨e3, e4, e5, e6⟩, e7, e8, e9, e10⟩ := hS
    go_simp
    try with_reducible rfl
  conv in (Act.put _ _ _) => simp only [List.getElem_toArray, List.getElem_cons_succ, List.getElem_cons_zero, Act.put, List.setIfInBounds_toArray, List.set_cons_succ, List.set_cons_zero]
  refine wpAnyH_take (i := 5) (v := ?_) rfl (by kernel_rfl) (by kernel_rfl) (by kernel_rfl) (fun _ _ _ h => h) (Or.inl ⟨by kernel_rfl, ?_⟩) HSW.out ?_
  rotate_left
  · intro w hS
    obtain ⟨⟨e1, e2⟩, ⟨e3, e4, e5, e6⟩, e7, e8, e9, e10⟩ := hS
    go_simp
    try with_reducible rfl
  conv in (Act.put _ _ _) => simp only [List.getElem_toArray, List.getElem_cons_succ, List.getElem_cons_zero, Act.put, List.setIfInBounds_toArray, List.set_cons_succ, List.set_cons_zero]
  refine wpAnyH_take (i := 6) (v := ?_) rfl (by kernel_rfl) (by kernel_rfl) (by kernel_rfl) (fun _ _ _ h => h) (Or.inl ⟨by kernel_rfl, ?_⟩) HSW.out ?_
  rotate_left
  · intro w hS
    obtain ⟨⟨e1, e2⟩, ⟨e3, e4, e5, e6⟩, e7, e8, e9, e10⟩ := hS
    go_simp
    try with_reducible rfl
  conv in (Act.put _ _ _) => simp only [List.getElem_toArray, List.getElem_cons_succ, List.getElem_cons_zero, Act.put, List.setIfInBounds_toArray, List.set_cons_succ, List.set_cons_zero]
  refine wpAnyH_take (i := 9) (v := ?_) rfl (by kernel_rfl) (by kernel_rfl) (by kernel_rfl) (fun _ _ _ h => h) (Or.inl ⟨by kernel_rfl, ?_⟩) HSW.out ?_
  rotate_left
  · intro w hS
    obtain ⟨⟨e1, e2⟩, ⟨e3, e4, e5, e6⟩, e7, e8, e9, e10⟩ := hS
    go_simp
    try with_reducible rfl
  conv in (Act.put _ _ _) => simp only [List.getElem_toArray, List.getElem_cons_succ, List.getElem_cons_zero, Act.put, List.setIfInBounds_toArray, List.set_cons_succ, List.set_cons_zero]
  refine wpAnyH_take (i := 10) (v := ?_) rfl (by kernel_rfl) (by kernel_rfl) (by kernel_rfl) (fun _ _ _ h => h) (Or.inl ⟨by kernel_rfl, ?_⟩) HSW.out ?_
  rotate_left
  · intro w hS
    obtain ⟨⟨e1, e2⟩, ⟨e3, e4, e5, e6⟩, e7, e8, e9, e10⟩ := hS
    go_simp
    try with_reducible rfl
  conv in (Act.put _ _ _) => simp only [List.getElem_toArray, List.getElem_cons_succ, List.getElem_cons_zero, Act.put, List.setIfInBounds_toArray, List.set_cons_succ, List.set_cons_zero]
  refine wpAnyH_take (i := 11) (v := ?_) rfl (by kernel_rfl) (by kernel_rfl) (by kernel_rfl) (fun _ _ _ h => h) (Or.inl ⟨by kernel_rfl, ?_⟩) HSW.out ?_
  rotate_left
  · intro w hS
    obtain ⟨⟨e1, e2⟩, ⟨e3, e4, e5, e6⟩, e7, e8, e9, e10⟩ := hS
    go_simp
    try with_reducible rfl
  conv in (Act.put _ _ _) => simp only [List.getElem_toArray, List.getElem_cons_succ, List.getElem_cons_zero, Act.put, List.setIfInBounds_toArray, List.set_cons_succ, List.set_cons_zero]
  refine wpAnyH_take (i := 12) (v := ?_) rfl (by kernel_rfl) (by kernel_rfl) (by kernel_rfl) (fun _ _ _ h => h) (Or.inl ⟨by kernel_rfl, ?_⟩) HSW.out ?_
  rotate_left
  · intro w hS
    obtain ⟨⟨e1, e2⟩, ⟨e3, e4, e5, e6⟩, e7, e8, e9, e10⟩ := hS
    go_simp
    try with_reducible rfl
  conv in (Act.put _ _ _) => simp only [List.getElem_toArray, List.getElem_cons_succ, List.getElem_cons_zero, Act.put, List.setIfInBounds_toArray, List.set_cons_succ, List.set_cons_zero]
  refine readyH 3 _ (by kernel_rfl) rfl (by kernel_rfl) (fun K hK => ?_)
  go_simp
  refine (HF1.out _).mono ?_
  rintro e w1 ⟨rfl, b1⟩
  have N1 : Hid (NW w w1 g1 g2 w.heap.size (w.heap.size + 1) x y i a b v j c d u) := HN0.out.grow b1
  have HSW : Hid (NS g1 g2 w.heap.size (w.heap.size + 1) x y i a b v j c d u w1) := N1.out.ns
  clear b1
  refine hK _ _ HSW.out ?_
  clear hK K
  refine readyH 7 _ (by kernel_rfl) rfl (by kernel_rfl) (fun K hK => ?_)
  go_simp
  refine (HF2.out _).mono ?_
  rintro e w2 ⟨rfl, b2⟩
  have N2 : Hid (NW w w2 g1 g2 w.heap.size (w.heap.size + 1) x y i a b v j c d u) := N1.out.grow b2
  have HSW : Hid (NS g1 g2 w.heap.size (w.heap.size + 1) x y i a b v j c d u w2) := N2.out.ns
  clear b2
  refine hK _ _ HSW.out ?_
  clear hK K
  refine readyH 8 _ (by kernel_rfl) rfl (by kernel_rfl) (fun K hK => ?_)
  go_simp
  refine (HC1.out _).mono ?_
  rintro e w3 ⟨rfl, hw3⟩
  have hw' := hw3.symm
  clear hw3
  subst hw'
  refine hK _ _ HSW.out ?_
  clear hK K
  refine readyH 13 _ (by kernel_rfl) rfl (by kernel_rfl) (fun K hK => ?_)
  go_simp
  refine (HC2.out _).mono ?_
  rintro e w4 ⟨rfl, hw4⟩
  have hw' := hw4.symm
  clear hw4
  subst hw'
  refine hK _ _ HSW.out ?_
  clear hK K
  have HT : Hid (NW w w2 g1 g2 w.heap.size (w.heap.size + 1) x y i a b v j c d u) := N2.out
  refine readyH 14 _ (by kernel_rfl) rfl (by kernel_rfl) (fun K hK => ?_)
  go_simp
  have hbn := below_new w2 (.cells #[.int .i64 z1, .int .i64 z2] 3)
  have hgn := heap_alloc_new w2 (.cells #[.int .i64 z1, .int .i64 z2] 3)
  have HT2 : Hid (NW w (w2.alloc (.cells #[.int .i64 z1, .int .i64 z2] 3)) g1 g2 w.heap.size (w.heap.size + 1) x y i a b v j c d u) := HT.out.grow hbn
  have HOR : Hid (∀ _ : True, _) := fun _ => or_any z1 z2 w2.heap.size (w2.alloc (.cells #[.int .i64 z1, .int .i64 z2] 3)) (by rw [cell_of_row _ _ _ _ _ _ hgn]; rfl) (by rw [cell_of_row _ _ _ _ _ _ hgn]; rfl)
  have HSW : Hid (NS g1 g2 w.heap.size (w.heap.size + 1) x y i a b v j c d u (w2.alloc (.cells #[.int .i64 z1, .int .i64 z2] 3))) := HT2.out.ns
  clear hbn hgn
  refine hK _ _ HSW.out ?_
  clear hK K
  refine readyH 15 _ (by kernel_rfl) rfl (by kernel_rfl) (fun K hK => ?_)
  go_simp
  refine Calls.mono (HOR.out trivial) ?_
  rintro e wz ⟨rfl, hwz⟩
  have hwz' := hwz.symm
  clear hwz
  subst hwz'
  refine hK _ _ HSW.out ?_
  clear hK K
  refine wpAnyH_take (i := 16) (v := ?_) rfl (by kernel_rfl) (by kernel_rfl) (by kernel_rfl) (fun _ _ _ h => h) (Or.inl ⟨by kernel_rfl, ?_⟩) HSW.out ?_
  rotate_left
  · intro w hS
    obtain ⟨⟨e1, e2⟩, ⟨e3, e4, e5, e6⟩, e7, e8, e9, e10⟩ := hS
    go_simp
    try with_reducible rfl
  conv in (Act.put _ _ _) => simp only [List.getElem_toArray, List.getElem_cons_succ, List.getElem_cons_zero, Act.put, List.setIfInBounds_toArray, List.set_cons_succ, List.set_cons_zero]
  refine wpAnyH_done (by kernel_rfl) ?_ _
  go_wp2_with fail
  go_ret
  exact ⟨rfl, HT2.out.bel⟩
set_option maxRecDepth 100000 in
theorem cmp_near (w0 : World) (g1 g2 x y M : Nat) (hx : x < 2147483648) (hy : y < 2147483648) (hp : Pt2 w0 g1 g2 x y) : Cmp w0 (nok M) (ltK (nkey x y M)) 44 #[.pointer (some ⟨g1, 0, none⟩), .pointer (some ⟨g2, 0, none⟩)] :=
  ⟨fun _ _ => rfl, fun W hW a b ha hb => (near1_any a b g1 g2 x y ha.2 hb.2 hx hy W (hp.grow hW (Nat.le_refl _))).mono fun _ _ ⟨h1, h2⟩ => ⟨_, h1, or_key _ _ _ _ M ha.1 hb.1, h2⟩⟩
end Go.Proofs.Ytimdlohdmddnjaa.Rq
/- The pieces of a tree: the rows of its nodes, and how far each is, the nearer ones ahead. -/
namespace Go.Proofs.Ytimdlohdmddnjaa.Rq
open Go.RowKit Go.Lib Go.Shelf
open Go.Proofs.Ytimdlohdmddnjaa.Rc
open Pz (Pc pcs pv)
attribute [local go_sem] Oper.semAt_some
set_option maxRecDepth 100000 in
theorem infoPiece : (Try.prog.info? 87).map (fun i => (i.zero, i.size, i.bytes)) = some (some (.agg #[.int .u64 0, .slice none 0 0]), 2, 32) := by kernel_rfl
set_option maxRecDepth 100000 in
theorem one_piece {w : World} {g : Nat} {r : Pc} {t : TypeId} {fr : Nat × Nat} (h : w.heap[g]? = some (.cells #[.int .u64 (r.aw : Int), .slice r.ro r.rn r.rc] t fr)) : Sl 2 w (some ⟨g, 0, none⟩) 1 1 (pcs r) := by
  refine ⟨Nat.le_refl _, by decide, (fun e => by cases e), rfl, fun _ => ⟨g, 0, rfl, (Array.getElem?_eq_some_iff.1 h).1, fun j u hu => ?_⟩⟩
  rw [Nat.zero_add, cell_of_row _ _ _ _ _ _ h]
  have : j < 2 := (List.getElem?_eq_some_iff.1 hu).1
  obtain rfl | rfl : j = 0 ∨ j = 1 := by omega
  all_goals exact hu
set_option maxRecDepth 100000 in
theorem pcs_one (r : Pc) : ∀ u ∈ pcs r, u.oneCell' = true := by
  intro u hu
  simp [pcs] at hu
  rcases hu with rfl | rfl <;> rfl
set_option maxRecDepth 100000 in
theorem away_le {x y : Nat} (hxy : onS x y = true) {m : List Rw} (ho : On m) {r : Rw} (hr : r ∈ m) : (fars (cx m) (cy m) (lev m : Int) x y).1 ≤ Rq.dist r.x r.y x y := by
  have hh := lev_has ho hr
  have hc := hasS_right hh
  have c := (rightS_nat _ _ _).1 hc
  have hf : fars (cx m) (cy m) (lev m : Int) x y = (farS (cx m) (cy m) (lev m) x y, 0) := by unfold fars; rw [if_pos ⟨hc, hxy⟩, Int.toNat_natCast]
  have h1 := far_le x y c hh
  rw [← dist_two] at h1
  rw [hf]
  exact h1
/-- A piece and its rows. -/
structure PA (w : World) (x y : Nat) (a : Pc × List Rw) : Prop where
  len : a.1.rn = a.2.length
  pos : 0 < a.2.length
  rows : RowsAt w a.1.ro a.1.rc a.2
  far : ∀ r ∈ a.2, a.1.aw ≤ Rq.dist r.x r.y x y
/-- What lies there within the walk. -/
structure PJ (w : World) (x y : Nat) (vs : List (List Rw)) (own : Nat → Prop) (t : Nat) (W : World) : Prop where
  rows : ∃ v ps, W.heap[w.heap.size]? = some (.cells #[v] 84 (0, 0)) ∧ W.ownsRow (w.heap.size + 1) 87 2 v ps.length (ps.flatMap pcs) ∧ (∀ b, v.ownBlock = some b → own b) ∧ ∃ L : List (Pc × List Rw), L.map Prod.fst = ps ∧ (∀ a ∈ L, PA w x y a) ∧ L.flatMap Prod.snd = seqs (fun _ => true) (vs.take t)
  bel : Below w.heap.size w W
  mine : own w.heap.size
  least : ∀ j, own j → w.heap.size ≤ j
set_option maxRecDepth 100000 in
theorem PJ.kw {w : World} {x y : Nat} {vs : List (List Rw)} {own : Nat → Prop} {t B : Nat} {W W' : World} (h : PJ w x y vs own t W) (hk : Kw B own W W') (hB : w.heap.size ≤ B) : PJ w x y vs own t W' := by
  obtain ⟨v, ps, h1, h2, h3, h4⟩ := h.rows
  exact ⟨⟨v, ps, (hk.block _ (Array.getElem?_eq_some_iff.1 h1).1 (.inr h.mine)).trans h1, own_same h2 fun b hb hlt => hk.block b hlt (.inr (h3 b hb)), h3, h4⟩, h.bel.trans ⟨hk.os, hk.tape, hk.output, hk.size, fun j hj => hk.block j (Nat.lt_of_lt_of_le hj h.bel.size) (.inl (by omega))⟩, h.mine, h.least⟩
set_option maxRecDepth 100000 in
theorem pieces1_any (a b : Pc) (w : World) : Calls Try.prog 80 #[pv a, pv b] w fun e w' => e = .returned (.int .i64 (cmpS a.aw b.aw)) ∧ Below w.heap.size w w' := by
  obtain ⟨i, x, y, v⟩ := a
  obtain ⟨j, s, t, u⟩ := b
  have HC : Hid _ := compare_any i j
  simp only [pv]
  generalize cmpS i j = c at *
  go_enter Try.func80, Try.ntmps80
  go_wp2_with fail
  refine (HC.out _).mono ?_
  rintro e w1 ⟨rfl, rfl⟩
  go_wp2_with fail
  go_ret
  exact ⟨rfl, (below_new w _).alloc (by simp) _⟩
set_option maxRecDepth 100000 in
theorem cmp_pieces (w0 : World) : Pz.Cmp w0 (fun _ => True) (Pz.ltK Pc.aw) 80 #[] :=
  ⟨fun _ _ => rfl, fun W _ a b _ _ => (pieces1_any a b W).mono fun e W' ⟨h1, h2⟩ => ⟨_, h1, by unfold cmpS Pz.ltK; by_cases c : a.aw < b.aw <;> by_cases c2 : b.aw < a.aw <;> simp [c, c2], h2⟩⟩
set_option maxRecDepth 100000 in
theorem perm_map_inv {α β : Type} (f : α → β) : ∀ {ps qs : List β}, qs.Perm ps → ∀ L : List α, L.map f = ps → ∃ L' : List α, L'.Perm L ∧ L'.map f = qs := by
  intro ps qs h
  induction h with
  | nil => intro L hL; exact ⟨L, List.Perm.refl _, hL⟩
  | cons x _ ih =>
    intro L hL
    cases L with
    | nil => cases hL
    | cons a L =>
      simp only [List.map_cons, List.cons.injEq] at hL
      obtain ⟨L', h1, h2⟩ := ih L hL.2
      exact ⟨a :: L', h1.cons a, by rw [List.map_cons, h2, hL.1]⟩
  | swap x y l =>
    intro L hL
    match L, hL with
    | a :: b :: L, hL =>
      simp only [List.map_cons, List.cons.injEq] at hL
      exact ⟨b :: a :: L, List.Perm.swap _ _ _, by simp [hL.1, hL.2.1, hL.2.2]⟩
  | trans _ _ ih1 ih2 =>
    intro L hL
    obtain ⟨L1, h1, h2⟩ := ih2 L hL
    obtain ⟨L2, h3, h4⟩ := ih1 L1 h2
    exact ⟨L2, h3.trans h1, h4⟩
set_option maxRecDepth 100000 in
theorem trio_new (w : World) (a b c : Obj) : (((w.alloc a).alloc b).alloc c).heap[w.heap.size]? = some a ∧ (((w.alloc a).alloc b).alloc c).heap[w.heap.size + 1]? = some b ∧ (((w.alloc a).alloc b).alloc c).heap[w.heap.size + 2]? = some c ∧ Below w.heap.size w (((w.alloc a).alloc b).alloc c) ∧ (((w.alloc a).alloc b).alloc c).heap.size = w.heap.size + 3 := by
  obtain ⟨x1, x2, x3⟩ := two_new w a b
  have hs : ((w.alloc a).alloc b).heap.size = w.heap.size + 2 := by simp
  have y1 := heap_alloc_new ((w.alloc a).alloc b) c
  have y2 := below_new ((w.alloc a).alloc b) c
  rw [hs] at y1 y2
  exact ⟨(y2.block _ (by omega)).trans x1, (y2.block _ (by omega)).trans x2, y1, x3.trans (y2.mono (by omega)), by simp⟩
set_option maxRecDepth 100000 in
/-- Not more pieces than rows. -/
theorem len_le {L : List (Pc × List Rw)} (h : ∀ a ∈ L, 0 < a.2.length) : L.length ≤ (L.flatMap Prod.snd).length := by
  induction L with
  | nil => simp
  | cons a L ih =>
    have h1 := h a (by simp)
    have h2 := ih fun b hb => h b (by simp [hb])
    rw [List.flatMap_cons, List.length_append, List.length_cons]
    omega
end Go.Proofs.Ytimdlohdmddnjaa.Rq
