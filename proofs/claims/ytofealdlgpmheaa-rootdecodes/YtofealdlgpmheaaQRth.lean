/- A root out of bytes: what read tells. -/
import Derived.Test.YtofealdlgpmheaaQGL
namespace Go.Proofs.Ytofealdlgpmheaa.Ro
open Go.RowKit Go.Lib Go.Shelf
open Go.Proofs.Ytofealdlgpmheaa.Rc Go.Proofs.Ytofealdlgpmheaa.Rq
attribute [local go_sem] Oper.semAt_some
/-- What lies there within the loop: what is left, and the numbers. -/
structure RJ (g1 g2 : Nat) (Wf : World) (rest : ByteArray) (v0 v1 v2 v3 : Nat) (own : Nat → Prop) (W : World) : Prop where
  rest : W.heap[g1]? = some (.cells #[.string rest] 9 (0, 0))
  nums : W.heap[g2]? = some (.cells (nmc v0 v1 v2 v3) 46 (0, 0))
  mine : own g1 ∧ own g2
  but : But (fun j => j = g1 ∨ j = g2) Wf W
set_option maxRecDepth 100000 in
theorem RJ.kw {g1 g2 : Nat} {Wf : World} {rest : ByteArray} {v0 v1 v2 v3 : Nat} {own : Nat → Prop} {W W' : World} (h : RJ g1 g2 Wf rest v0 v1 v2 v3 own W) (hk : Kw Wf.heap.size own W W') : RJ g1 g2 Wf rest v0 v1 v2 v3 own W' :=
  ⟨(hk.block _ (Array.getElem?_eq_some_iff.1 h.rest).1 (.inr h.mine.1)).trans h.rest, (hk.block _ (Array.getElem?_eq_some_iff.1 h.nums).1 (.inr h.mine.2)).trans h.nums, h.mine,
    ⟨hk.os.trans h.but.os, hk.tape.trans h.but.tape, hk.output.trans h.but.output, Nat.le_trans h.but.size hk.size, fun j hj hn => (hk.block j (Nat.lt_of_lt_of_le hj h.but.size) (.inl hj)).trans (h.but.block j hj hn)⟩⟩
set_option maxRecDepth 100000 in
theorem box1_put {W : World} {g : Nat} {v v' : Value} {t : TypeId} (h : W.heap[g]? = some (.cells #[v] t (0, 0))) : (W.setCell ⟨g, 0, none⟩ v').heap[g]? = some (.cells #[v'] t (0, 0)) := by
  have := heap_setCell_same W g 0 _ _ v' h
  simpa using this
set_option maxRecDepth 100000 in
theorem nums_put {W : World} {g v0 v1 v2 v3 : Nat} (h : W.heap[g]? = some (.cells (nmc v0 v1 v2 v3) 46 (0, 0))) (i x : Nat) (hi : i < 4) :
    (W.setCell ⟨g, i, none⟩ (.int .u64 (x : Int))).heap[g]? = some (.cells (nmc (if i = 0 then x else v0) (if i = 1 then x else v1) (if i = 2 then x else v2) (if i = 3 then x else v3)) 46 (0, 0)) := by
  have := heap_setCell_same W g i _ _ (.int .u64 (x : Int)) h
  obtain rfl | rfl | rfl | rfl : i = 0 ∨ i = 1 ∨ i = 2 ∨ i = 3 := by omega
  all_goals simpa using this
set_option maxRecDepth 100000 in
theorem wrap32 (n : Nat) : IntKind.u32.wrap (n : Int) = ((n % 4294967296 : Nat) : Int) := by rw [IntKind.wrap_u32]; omega
set_option maxRecDepth 100000 in
theorem trio (w : World) (a b c : Obj) : (((w.alloc a).alloc b).alloc c).heap[w.heap.size]? = some a ∧ (((w.alloc a).alloc b).alloc c).heap[w.heap.size + 1]? = some b ∧ (((w.alloc a).alloc b).alloc c).heap[w.heap.size + 2]? = some c ∧ Below w.heap.size w (((w.alloc a).alloc b).alloc c) ∧ (((w.alloc a).alloc b).alloc c).heap.size = w.heap.size + 3 := by
  obtain ⟨x1, x2, x3⟩ := two_new w a b
  have hs : ((w.alloc a).alloc b).heap.size = w.heap.size + 2 := by simp
  have y1 := heap_alloc_new ((w.alloc a).alloc b) c
  have y2 := below_new ((w.alloc a).alloc b) c
  rw [hs] at y1 y2
  exact ⟨(y2.block _ (by omega)).trans x1, (y2.block _ (by omega)).trans x2, y1, x3.trans (y2.mono (by omega)), by simp⟩
set_option maxRecDepth 100000 in
/-- A function that holds ranges over functions is left, and tells what lies in a block. -/
theorem leaves_marks2 {F : Fence} {n : Nat} {P : Program} {fn : Func} {tmps : Array Value} {R : Ending → World → Prop} {v : Value} :
    ∀ (Ds : List Nat) (W : World), Ds.Nodup → (∀ D ∈ Ds, W.heap[D]? = some (.deferred (some []))) → (∀ W', But (fun j => j ∈ Ds) W W' → (results fn tmps).run P W' = .ok v W') → (∀ W', But (fun j => j ∈ Ds) W W' → R (.returned v) W') →
      LeavesInM F n P fn tmps R (Ds.map fun D => { target := .collected D, args := #[] }) .returning W
  | [], W, _, _, hr, h => ⟨v, hr W (But.refl _ _), h W (But.refl _ _)⟩
  | D :: Ds, W, hn, hd, hr, h => by
    have hD := hd D (by simp)
    refine ⟨by simp, .inl ⟨D, _, rfl, run_takeDeferred hD, ?_⟩⟩
    obtain ⟨h1, h2⟩ := List.nodup_cons.1 hn
    have hb : ∀ W', But (fun j => j ∈ Ds) (W.putObj D (.deferred none)) W' → But (fun j => j ∈ D :: Ds) W W' := fun W' hb => (But.put W D _ (by simp)).trans (hb.more fun j _ hj => by simp [hj])
    refine leaves_marks2 Ds _ h2 (fun E hE => ?_) (fun W' hb' => hr W' (hb W' hb')) fun W' hb' => h W' (hb W' hb')
    exact (World.putObj_heap_other (fun e => h1 (by rw [← e]; exact hE))).trans (hd E (by simp [hE]))
set_option maxRecDepth 100000 in
theorem bt_extract (s : ByteArray) (a : Nat) (h : a < s.size) : bt (s.extract a s.size) 0 = bt s a := by
  unfold bt
  have e : (s.extract a s.size).data = s.data.extract a s.size := ByteArray.data_extract
  rw [e, Array.getElem?_extract]
  have h2 : 0 < s.size - a := by omega
  simp [h2]
set_option maxRecDepth 100000 in
theorem extract_tail (s : ByteArray) (a : Nat) : (s.extract a s.size).extract 1 (s.extract a s.size).size = s.extract (a + 1) s.size := by
  rw [ByteArray.size_extract, ByteArray.extract_extract]
  congr 1
  omega
set_option maxRecDepth 100000 in
set_option maxHeartbeats 4000000 in
theorem read_no (s : ByteArray) (w : World) (hM : hasM s = false) : Calls Try.prog 26 #[.string s] w fun e w' => e = .returned (rtv zeroR) ∧ Below w.heap.size w w' := by
  have HC : Hid (∀ W : World, _) := cutPrefix_any s
  rw [hM] at HC
  simp only [Bool.false_eq_true, if_false] at HC
  have h0 := heap_alloc_new w (.cells #[.int .u64 0, .int .u32 0, .int .u32 0, .int .u32 0, .string ⟨#[]⟩] 27)
  have h1 := below_new w (.cells #[.int .u64 0, .int .u32 0, .int .u32 0, .int .u32 0, .string ⟨#[]⟩] 27)
  have h2 := below_new (w.alloc (.cells #[.int .u64 0, .int .u32 0, .int .u32 0, .int .u32 0, .string ⟨#[]⟩] 27)) (.cells #[.string s] 9)
  have HG : Hid (((w.alloc (.cells #[.int .u64 0, .int .u32 0, .int .u32 0, .int .u32 0, .string ⟨#[]⟩] 27)).alloc (.cells #[.string s] 9)).heap[w.heap.size]? = some (.cells #[.int .u64 0, .int .u32 0, .int .u32 0, .int .u32 0, .string ⟨#[]⟩] 27 (0, 0))) := (h2.block _ (by simp)).trans h0
  have HB : Hid (Below w.heap.size w ((w.alloc (.cells #[.int .u64 0, .int .u32 0, .int .u32 0, .int .u32 0, .string ⟨#[]⟩] 27)).alloc (.cells #[.string s] 9))) := h1.trans (h2.mono h1.size)
  clear h0 h1 h2 hM
  refine (callsIn_wide (n := 5)).1 ?_
  refine callsIn_of_wp_marks Try.func26 rfl trivial ?_ rfl
  simp only [Try.ntmps26, List.size_toArray, List.length_cons, List.length_nil, Nat.reduceAdd, Nat.reduceSub, Array.replicate_succ, Array.replicate_zero, List.push_toArray, List.append_toArray, List.nil_append, List.cons_append]
  gi_wp2
  refine (wpIn_wide (n := 5)).2 (wp_scope_straight ((wpIn_wide (n := 5)).1 ?_))
  gi_wp2
  refine ⟨trivial, callsIn_wide.2 ((HC.out _).mono ?_)⟩
  rintro e w2 ⟨rfl, rfl⟩
  gi_wp2
  rw [Exit.noGoto_ret]
  refine leaves_marks2 [] _ (by simp) (fun E hE => by simp at hE) (fun W' hb => results_root rfl _ _ w.heap.size _ _ _ _ _ rfl ((hb.block _ (by simp; omega) (by simp)).trans HG.out)) fun W' hb => ⟨rfl, HB.out.trans ⟨hb.os, hb.tape, hb.output, hb.size, fun j hj => hb.block j (by simp; omega) (by simp)⟩⟩
set_option maxRecDepth 100000 in
set_option maxHeartbeats 8000000 in
theorem read_ok (s : ByteArray) (w : World) (hM : hasM s = true) : Calls Try.prog 26 #[.string s] w fun e w' => e = .returned (rtv (if rrt (rootOf s) then rootOf s else zeroR)) ∧ Below w.heap.size w w' := by
  have HC : Hid (∀ W : World, _) := cutPrefix_any s
  rw [hM] at HC
  simp only [if_true] at HC
  have HM4 : Hid (4 ≤ s.size) := hasM_size hM
  obtain ⟨V, hV⟩ : ∃ V : Nat → Nat → Nat, (fun z k => acc (fs s) z k) = V := ⟨_, rfl⟩
  have HV : Hid (∀ z k, acc (fs s) z k = V z k) := fun z k => by rw [← hV]
  have HVs : Hid (∀ z k, V z (k + 1) = if ix k = z then V z k + fs s k * 2 ^ sh k else V z k) := fun z k => by rw [← hV]; rfl
  have HV0 : Hid (∀ z, V z 0 = 0) := fun z => by rw [← hV]; rfl
  have HVo : Hid (∀ k, k < 20 → V (ix k) k ||| (fs s k * 2 ^ sh k) = V (ix k) k + fs s k * 2 ^ sh k) := fun k hk => by rw [← hV]; exact acc_or (fs s) (fs_lt s) k hk
  have HVl : Hid (∀ k, k < 20 → V (ix k) k < 2 ^ sh k) := fun k hk => by rw [← hV]; exact acc_lt (fs s) (fs_lt s) k hk
  clear hV hM
  obtain ⟨PST, hPST⟩ : ∃ PST : Ending → World → Prop, (fun e w' => e = .returned (rtv (if rrt (rootOf s) then rootOf s else zeroR)) ∧ Below w.heap.size w w') = PST := ⟨_, rfl⟩
  rw [hPST]
  have HP : Hid (∀ e w', e = .returned (rtv (if rrt (rootOf s) then rootOf s else zeroR)) → Below w.heap.size w w' → PST e w') := fun e w' h1 h2 => by rw [← hPST]; exact ⟨h1, h2⟩
  clear hPST
  obtain ⟨rs0, hrs0⟩ : ∃ rs0, s.extract 4 s.size = rs0 := ⟨_, rfl⟩
  rw [hrs0] at HC
  have HR0 : Hid (s.extract 4 s.size = rs0) := hrs0
  clear hrs0
  refine (callsIn_wide (n := 5)).1 ?_
  refine callsIn_of_wp_marks Try.func26 rfl trivial ?_ rfl
  simp only [Try.ntmps26, List.size_toArray, List.length_cons, List.length_nil, Nat.reduceAdd, Nat.reduceSub, Array.replicate_succ, Array.replicate_zero, List.push_toArray, List.append_toArray, List.nil_append, List.cons_append]
  gi_wp2
  refine (wpIn_wide (n := 5)).2 (wp_scope_straight ((wpIn_wide (n := 5)).1 ?_))
  gi_wp2
  refine ⟨trivial, callsIn_wide.2 ((HC.out _).mono ?_)⟩
  rintro e w2 ⟨rfl, rfl⟩
  gi_wp2
  refine wpIn_label ?_
  gi_wp2
  refine ⟨trivial, callsIn_wide.2 ((places_any _).mono ?_)⟩
  rintro e Wf ⟨rfl, hWf⟩
  obtain ⟨t1, t2, t3, t4, t5⟩ := trio w (.cells #[.int .u64 0, .int .u32 0, .int .u32 0, .int .u32 0, .string ⟨#[]⟩] 27) (.cells #[.string rs0] 9) (.cells #[.int .u64 0, .int .u64 0, .int .u64 0, .int .u64 0] 46)
  rw [← hWf] at t1 t2 t3 t4 t5
  have HT1 : Hid (Wf.heap[w.heap.size]? = some (.cells #[.int .u64 0, .int .u32 0, .int .u32 0, .int .u32 0, .string ⟨#[]⟩] 27 (0, 0))) := t1
  have HBf : Hid (Below w.heap.size w Wf) := t4
  have HSf : Hid (Wf.heap.size = w.heap.size + 3) := t5
  have HJ0 : Hid (RJ (w.heap.size + 1) (w.heap.size + 2) Wf rs0 (V 0 0) (V 1 0) (V 2 0) (V 3 0) (fun j => j = w.heap.size + 1 ∨ j = w.heap.size + 2) Wf) := by
    rw [HV0.out, HV0.out, HV0.out, HV0.out]
    exact ⟨t2, t3, ⟨.inl rfl, .inr rfl⟩, But.refl _ _⟩
  clear t1 t2 t3 t4 t5 hWf
  gi_wp2
  refine range_law9 (by omega) (gf := 35) (lb := #[]) rfl (enters_of Try.func35 (by kernel_rfl) rfl) (α := Nat) 20 (fun k => #[.int .i64 ((ix k : Nat) : Int), .int .i64 ((sh k : Nat) : Int)]) (fun _ => rfl) (fun k x => x = k)
    (fun own' t W => 4 + t ≤ s.size ∧ RJ (w.heap.size + 1) (w.heap.size + 2) Wf (s.extract (4 + t) s.size) (V 0 t) (V 1 t) (V 2 t) (V 3 t) own' W) (fun own' W => ∃ k v0 v1 v2 v3, k < 20 ∧ s.size = 4 + k ∧ RJ (w.heap.size + 1) (w.heap.size + 2) Wf ⟨#[]⟩ v0 v1 v2 v3 own' W) (.exit 0) ?hJ ?hJx (fun j => j = w.heap.size + 1 ∨ j = w.heap.size + 2) ?hown0 ?h0
    (fun k a' _ => a' = { tmps := #[.string s, undef, .pointer (some ⟨w.heap.size, 0, none⟩), .pointer (some ⟨w.heap.size + 1, 0, none⟩), .bool true, .pointer (some ⟨w.heap.size + 2, 0, none⟩), .int .i64 ((ix k : Nat) : Int), .int .i64 ((sh k : Nat) : Int), undef, .tuple #[.string rs0, .bool true], .string s, .tuple #[.string rs0, .bool true], .string rs0, .bool true, .bool true, .bool false, undef, .func (.func 35) #[] #[], .int .i64 ((ix k : Nat) : Int), .int .i64 ((sh k : Nat) : Int), undef, undef, undef, undef, undef, undef, undef, undef, undef, undef, undef, undef, undef, undef, undef, undef, undef, undef, undef, undef, undef, undef, undef, undef, undef, undef, undef, undef, undef, undef, undef, undef, undef], defers := [] }) ?hA ?assign ?body ?iter ?done ?stop
  case hJ => intro own' k A B h hk; exact ⟨h.1, h.2.kw hk⟩
  case hJx => intro own' A B h hk; obtain ⟨k, v0, v1, v2, v3, h1, h2, h3⟩ := h; exact ⟨k, v0, v1, v2, v3, h1, h2, h3.kw hk⟩
  case hown0 => intro j hj; have hS := HSf.out; omega
  case h0 => exact ⟨HM4.out, by rw [Nat.add_zero, HR0.out]; exact HJ0.out⟩
  case hA => intro x a' W l o' h _ _; exact h
  case assign =>
    intro l' own' k x W' K hk hok hJk hsz' hK
    clear hok hJk
    gi_wp2
    exact hK _ _ (Below.refl _ _) rfl
  case iter =>
    intro l' W5 hl' hB5 hs5 R' Rx' ow how hR' hRx' hY' h0'
    have hS := HSf.out
    refine places1_any W5 l' R' Rx' ow (fun j hj => ?_) (fun own' k W hk hRk hsz' => hY' own' k k W hk rfl hRk hsz') h0'
    rcases (how j).1 hj with a | rfl
    · omega
    · omega
  case body =>
    rintro l' own' k x a' W' hk rfl ⟨hks, hJ⟩ rfl hsz' hol
    by_cases he : s.size = 4 + x
    · have hrs : s.extract (4 + x) s.size = ⟨#[]⟩ := empty_is (by rw [ByteArray.size_extract]; omega)
      rw [hrs] at hJ
      have c1 : W'.cell? ⟨w.heap.size + 1, 0, none⟩ = some (.string ⟨#[]⟩) := by rw [cell_of_row _ _ _ _ _ _ hJ.rest]; rfl
      have HF : Hid (∃ k v0 v1 v2 v3, k < 20 ∧ s.size = 4 + k ∧ RJ (w.heap.size + 1) (w.heap.size + 2) Wf ⟨#[]⟩ v0 v1 v2 v3 own' W') := ⟨x, _, _, _, _, hk, he, hJ⟩
      clear hJ hol hsz' he hrs hks
      gi_wp2
      exact ⟨rfl, own', fun j hj => .inl hj, But.refl _ _, HF.out⟩
    · have hne := empty_not (s := s.extract (4 + x) s.size) (by rw [ByteArray.size_extract]; omega)
      have hb0 : bt (s.extract (4 + x) s.size) 0 = fs s x := bt_extract s (4 + x) (by omega)
      have hi0 : ∀ W : World, (Instr.index 9 (.string (s.extract (4 + x) s.size)) (.int .i64 0)).run Try.prog W = .ok (.int .u8 (fs s x : Int)) W := fun W => by
        have := idx_s (s.extract (4 + x) s.size) 0 (by rw [ByteArray.size_extract]; omega) W
        rw [hb0] at this
        exact this
      have hex : (s.extract (4 + x) s.size).extract 1 (s.extract (4 + x) s.size).size = s.extract (4 + (x + 1)) s.size := extract_tail s (4 + x)
      have hsz1 : 1 ≤ (s.extract (4 + x) s.size).size := by rw [ByteArray.size_extract]; omega
      obtain ⟨rs, hrs⟩ : ∃ rs, s.extract (4 + x) s.size = rs := ⟨_, rfl⟩
      rw [hrs] at hJ hne hi0 hex hsz1
      clear hrs hb0
      have hbl : fs s x < 256 := fs_lt s x
      have hor := HVo.out x hk
      have hvl := HVl.out x hk
      have hix := ix_lt x hk
      have hsh := sh_lt x hk
      have e0 := HVs.out 0 x
      have e1 := HVs.out 1 x
      have e2 := HVs.out 2 x
      have e3 := HVs.out 3 x
      have hvx : nm (V 0 x) (V 1 x) (V 2 x) (V 3 x) (ix x) = V (ix x) x := by
        generalize ix x = i at hix
        obtain rfl | rfl | rfl | rfl : i = 0 ∨ i = 1 ∨ i = 2 ∨ i = 3 := by omega
        all_goals rfl
      obtain ⟨b, hb⟩ : ∃ b, fs s x = b := ⟨_, rfl⟩
      rw [hb] at hi0 hbl hor e0 e1 e2 e3
      obtain ⟨nx, hnx⟩ : ∃ n, V (ix x) x = n := ⟨_, rfl⟩
      rw [hnx] at hor hvl hvx
      have hp : b * 2 ^ sh x < 18446744073709551616 := by
        have h1 : b * 2 ^ sh x ≤ 255 * 2 ^ sh x := Nat.mul_le_mul_right _ (by omega)
        have h2 : 2 ^ sh x ≤ 2 ^ 56 := Nat.pow_le_pow_right (by decide) hsh
        omega
      have hpn : nx < 18446744073709551616 := by
        have h2 : 2 ^ sh x ≤ 2 ^ 56 := Nat.pow_le_pow_right (by decide) hsh
        omega
      have hor2 := u64_or_nat nx (b * 2 ^ sh x) hpn hp
      rw [hor] at hor2
      have hp2 : (b : Int) * 2 ^ sh x = ((b * 2 ^ sh x : Nat) : Int) := by push_cast; rfl
      have hpI : (0 : Int) ≤ ((b * 2 ^ sh x : Nat) : Int) ∧ ((b * 2 ^ sh x : Nat) : Int) ≤ 18446744073709551615 := by omega
      obtain ⟨pb, hpb⟩ : ∃ n : Nat, b * 2 ^ sh x = n := ⟨_, rfl⟩
      rw [hpb] at hor2 hp2 hpI e0 e1 e2 e3
      obtain ⟨nb, hnb⟩ : ∃ n : Nat, nx + pb = n := ⟨_, rfl⟩
      rw [hnb] at hor2
      have hput := nums_put (W := W'.drew) (i := ix x) (show W'.drew.heap[w.heap.size + 2]? = _ from hJ.nums) nb hix
      have c1 : W'.cell? ⟨w.heap.size + 1, 0, none⟩ = some (.string rs) := by rw [cell_of_row _ _ _ _ _ _ hJ.rest]; rfl
      have c2 : W'.cell? ⟨w.heap.size + 2, ix x, none⟩ = some (.int .u64 (nx : Int)) := by rw [← hvx]; exact nm_cell hJ.nums _ hix
      have z2 : W'.frozen? ⟨w.heap.size + 2, ix x, none⟩ = false := frozen_of_row W' _ _ _ _ hJ.nums
      have hu : (if ix x = 0 then nb else V 0 x) = V 0 (x + 1) ∧ (if ix x = 1 then nb else V 1 x) = V 1 (x + 1) ∧ (if ix x = 2 then nb else V 2 x) = V 2 (x + 1) ∧ (if ix x = 3 then nb else V 3 x) = V 3 (x + 1) := by
        rw [e0, e1, e2, e3, ← hnb]
        refine ⟨?_, ?_, ?_, ?_⟩ <;> split <;> (try (rename_i h; rw [h] at hnx; rw [hnx])) <;> rfl
      rw [hu.1, hu.2.1, hu.2.2.1, hu.2.2.2] at hput
      have HFIN : Hid (∃ own2 : Nat → Prop, (∀ j, own2 j → own' j ∨ (W'.heap.size ≤ j ∧ j < ((W'.drew.setCell ⟨w.heap.size + 2, ix x, none⟩ (.int .u64 (nb : Int))).setCell ⟨w.heap.size + 1, 0, none⟩ (.string (s.extract (4 + (x + 1)) s.size))).heap.size)) ∧ But own' W' ((W'.drew.setCell ⟨w.heap.size + 2, ix x, none⟩ (.int .u64 (nb : Int))).setCell ⟨w.heap.size + 1, 0, none⟩ (.string (s.extract (4 + (x + 1)) s.size))) ∧ (4 + (x + 1) ≤ s.size ∧ RJ (w.heap.size + 1) (w.heap.size + 2) Wf (s.extract (4 + (x + 1)) s.size) (V 0 (x + 1)) (V 1 (x + 1)) (V 2 (x + 1)) (V 3 (x + 1)) own2 ((W'.drew.setCell ⟨w.heap.size + 2, ix x, none⟩ (.int .u64 (nb : Int))).setCell ⟨w.heap.size + 1, 0, none⟩ (.string (s.extract (4 + (x + 1)) s.size))))) := by
        have o1 : ∀ (W : World) (g k : Nat) (v : Value) (j : Nat), j ≠ g → (W.setCell ⟨g, k, none⟩ v).heap[j]? = W.heap[j]? := fun W g k v j hj => Below.heap_setCell _ _ _ _ (fun e => hj e)
        have bs : ∀ (S : Nat → Prop) (W : World) (g k : Nat) (v : Value), S g → But S W (W.setCell ⟨g, k, none⟩ v) := fun S W g k v h => ⟨rfl, rfl, rfl, by simp [World.setCell], fun j _ hn => o1 _ _ _ _ _ (fun e => hn (e ▸ h))⟩
        have bd : ∀ S : Nat → Prop, But S W' W'.drew := fun S => ⟨rfl, rfl, rfl, Nat.le_refl _, fun _ _ _ => rfl⟩
        refine ⟨own', fun j hj => .inl hj, (bd _).trans ((bs _ _ _ _ _ hJ.mine.2).trans (bs _ _ _ _ _ hJ.mine.1)), by omega, ⟨box1_put ((o1 _ _ _ _ _ (by omega)).trans (show W'.drew.heap[w.heap.size + 1]? = _ from hJ.rest)), (o1 _ _ _ _ _ (by omega)).trans hput, hJ.mine, hJ.but.trans ((bd _).trans ((bs _ _ _ _ _ (.inr rfl)).trans (bs _ _ _ _ _ (.inl rfl))))⟩⟩
      have HG1 : Hid ((W'.drew.setCell ⟨w.heap.size + 2, ix x, none⟩ (.int .u64 (nb : Int))).heap[w.heap.size + 1]? = some (.cells #[.string rs] 9 (0, 0))) := (Below.heap_setCell _ _ _ _ (fun e => by have e' : w.heap.size + 1 = w.heap.size + 2 := e; omega)).trans (show W'.drew.heap[w.heap.size + 1]? = _ from hJ.rest)
      have hmx : Try.prog.follows .mixedOrders = true := by kernel_rfl
      obtain ⟨ixx, hixx⟩ : ∃ n, ix x = n := ⟨_, rfl⟩
      obtain ⟨shx, hshx⟩ : ∃ n, sh x = n := ⟨_, rfl⟩
      rw [hixx] at c2 z2 hix HFIN HG1 ⊢
      rw [hshx] at hp2 hsh ⊢
      have HEX : Hid _ := hex
      have HOR : Hid _ := hor2
      have HP2 : Hid ((b : Int) * 2 ^ shx = (pb : Int)) := hp2
      have HPI : Hid ((0 : Int) ≤ (pb : Int) ∧ (pb : Int) ≤ 18446744073709551615) := hpI
      have q1 : (0 : Int) ≤ (ixx : Int) := by omega
      have q2 : (ixx : Int) < 4 := by omega
      have q3 : (0 : Int) ≤ (shx : Int) := by omega
      have q4 : (shx : Int) < 64 := by omega
      have hl1 : w.heap.size + 1 < W'.heap.size := (Array.getElem?_eq_some_iff.1 hJ.rest).1
      have hl2 : w.heap.size + 2 < W'.heap.size := (Array.getElem?_eq_some_iff.1 hJ.nums).1
      clear hnb hJ hput hu e0 e1 e2 e3 hvx hor hvl hb hnx hp hpn hpb hixx hshx hex hor2 hp2 hpI hk hol hsz' he
      gi_wp2
      have HSW : Hid (W'.drew.cell? ⟨w.heap.size + 1, 0, none⟩ = some (.string rs) ∧ W'.drew.cell? ⟨w.heap.size + 2, ixx, none⟩ = some (.int .u64 (nx : Int))) := ⟨c1, c2⟩
      refine region_last (z := 10) (S := fun u => u.cell? ⟨w.heap.size + 1, 0, none⟩ = some (.string rs) ∧ u.cell? ⟨w.heap.size + 2, ixx, none⟩ = some (.int .u64 (nx : Int))) hmx (by kernel_rfl) ?lets ?_
      case lets =>
        rintro ⟨a, u, h⟩
        exact h
      change wpLast _ _ _ _ _ _ 11 _ _ _
      refine wpLast_take (i := 0) (v := ?_) (by kernel_rfl) rfl (by kernel_rfl) (by kernel_rfl) (by kernel_rfl) (fun _ _ _ h => h) (Or.inl ⟨by kernel_rfl, ?_⟩) HSW.out ?_
      rotate_left
      · intro w hS
        obtain ⟨s1, s2⟩ := hS
        go_simp
        try with_reducible rfl
      conv in (Act.put _ _ _) => simp only [List.getElem_toArray, List.getElem_cons_succ, List.getElem_cons_zero, Act.put, List.setIfInBounds_toArray, List.set_cons_succ, List.set_cons_zero]
      refine wpLast_take (i := 1) (v := ?_) (by kernel_rfl) rfl (by kernel_rfl) (by kernel_rfl) (by kernel_rfl) (fun _ _ _ h => h) (Or.inl ⟨by kernel_rfl, ?_⟩) HSW.out ?_
      rotate_left
      · intro w hS
        obtain ⟨s1, s2⟩ := hS
        go_simp
        try with_reducible rfl
      conv in (Act.put _ _ _) => simp only [List.getElem_toArray, List.getElem_cons_succ, List.getElem_cons_zero, Act.put, List.setIfInBounds_toArray, List.set_cons_succ, List.set_cons_zero]
      refine wpLast_take (i := 2) (v := ?_) (by kernel_rfl) rfl (by kernel_rfl) (by kernel_rfl) (by kernel_rfl) (fun _ _ _ h => h) (Or.inl ⟨by kernel_rfl, ?_⟩) HSW.out ?_
      rotate_left
      · intro w hS
        obtain ⟨s1, s2⟩ := hS
        go_simp
        try with_reducible rfl
      conv in (Act.put _ _ _) => simp only [List.getElem_toArray, List.getElem_cons_succ, List.getElem_cons_zero, Act.put, List.setIfInBounds_toArray, List.set_cons_succ, List.set_cons_zero]
      refine wpLast_take (i := 3) (v := ?_) (by kernel_rfl) rfl (by kernel_rfl) (by kernel_rfl) (by kernel_rfl) (fun _ _ _ h => h) (Or.inl ⟨by kernel_rfl, ?_⟩) HSW.out ?_
      rotate_left
      · intro w hS
        obtain ⟨s1, s2⟩ := hS
        go_simp
        try with_reducible rfl
      conv in (Act.put _ _ _) => simp only [List.getElem_toArray, List.getElem_cons_succ, List.getElem_cons_zero, Act.put, List.setIfInBounds_toArray, List.set_cons_succ, List.set_cons_zero]
      refine wpLast_take (i := 4) (v := .int .u8 (b : Int)) (by kernel_rfl) rfl (by kernel_rfl) (by kernel_rfl) (by kernel_rfl) (fun _ _ _ h => h) (Or.inl ⟨by kernel_rfl, ?_⟩) HSW.out ?_
      · intro w hS
        go_simp
      conv in (Act.put _ _ _) => simp only [List.getElem_toArray, List.getElem_cons_succ, List.getElem_cons_zero, Act.put, List.setIfInBounds_toArray, List.set_cons_succ, List.set_cons_zero]
      refine wpLast_take (i := 5) (v := .int .u64 (b : Int)) (by kernel_rfl) rfl (by kernel_rfl) (by kernel_rfl) (by kernel_rfl) (fun _ _ _ h => h) (Or.inl ⟨by kernel_rfl, ?_⟩) HSW.out ?_
      · intro w hS
        go_simp
        all_goals (try exact IntWalk.u64_in _ ⟨by omega, by omega⟩)
      conv in (Act.put _ _ _) => simp only [List.getElem_toArray, List.getElem_cons_succ, List.getElem_cons_zero, Act.put, List.setIfInBounds_toArray, List.set_cons_succ, List.set_cons_zero]
      refine wpLast_take (i := 6) (v := ?_) (by kernel_rfl) rfl (by kernel_rfl) (by kernel_rfl) (by kernel_rfl) (fun _ _ _ h => h) (Or.inl ⟨by kernel_rfl, ?_⟩) HSW.out ?_
      rotate_left
      · intro w hS
        obtain ⟨s1, s2⟩ := hS
        go_simp
        try with_reducible rfl
      conv in (Act.put _ _ _) => simp only [List.getElem_toArray, List.getElem_cons_succ, List.getElem_cons_zero, Act.put, List.setIfInBounds_toArray, List.set_cons_succ, List.set_cons_zero]
      refine wpLast_take (i := 7) (v := .int .u64 (pb : Int)) (by kernel_rfl) rfl (by kernel_rfl) (by kernel_rfl) (by kernel_rfl) (fun _ _ _ h => h) (Or.inl ⟨by kernel_rfl, ?_⟩) HSW.out ?_
      · intro w hS
        go_simp
        rw [HP2.out]
        exact IntWalk.u64_in _ HPI.out
      conv in (Act.put _ _ _) => simp only [List.getElem_toArray, List.getElem_cons_succ, List.getElem_cons_zero, Act.put, List.setIfInBounds_toArray, List.set_cons_succ, List.set_cons_zero]
      refine wpLast_take (i := 8) (v := .int .u64 (nb : Int)) (by kernel_rfl) rfl (by kernel_rfl) (by kernel_rfl) (by kernel_rfl) (fun _ _ _ h => h) (Or.inl ⟨by kernel_rfl, ?_⟩) HSW.out ?_
      · intro w hS
        go_simp
        exact HOR.out
      conv in (Act.put _ _ _) => simp only [List.getElem_toArray, List.getElem_cons_succ, List.getElem_cons_zero, Act.put, List.setIfInBounds_toArray, List.set_cons_succ, List.set_cons_zero]
      refine wpLast_take (i := 9) (v := ?_) (by kernel_rfl) rfl (by kernel_rfl) (by kernel_rfl) (by kernel_rfl) (fun _ _ _ h => h) (Or.inl ⟨by kernel_rfl, ?_⟩) HSW.out ?_
      rotate_left
      · intro w hS
        obtain ⟨s1, s2⟩ := hS
        go_simp
        try with_reducible rfl
      conv in (Act.put _ _ _) => simp only [List.getElem_toArray, List.getElem_cons_succ, List.getElem_cons_zero, Act.put, List.setIfInBounds_toArray, List.set_cons_succ, List.set_cons_zero]
      refine wpLast_end rfl (by kernel_rfl) (by kernel_rfl) (by kernel_rfl) ?_
      unfold Oper.wp
      have c2d := HSW.out.2
      have z2d : W'.drew.frozen? ⟨w.heap.size + 2, ixx, none⟩ = false := z2
      clear c1 c2 z2
      go_simp
      rename_i hK
      refine hK _ _ ?_
      clear hK
      have c1Y : (W'.setCell ⟨w.heap.size + 2, ixx, none⟩ (.int .u64 (nb : Int))).drew.cell? ⟨w.heap.size + 1, 0, none⟩ = some (.string rs) := by
        rw [World.cell?_of_block (a := ⟨w.heap.size + 1, 0, none⟩) (show (W'.setCell ⟨w.heap.size + 2, ixx, none⟩ (.int .u64 (nb : Int))).drew.heap[w.heap.size + 1]? = (W'.drew.setCell ⟨w.heap.size + 2, ixx, none⟩ (.int .u64 (nb : Int))).heap[w.heap.size + 1]? from rfl), cell_of_row _ _ _ _ _ _ HG1.out]; rfl
      have z1Y : (W'.setCell ⟨w.heap.size + 2, ixx, none⟩ (.int .u64 (nb : Int))).drew.frozen? ⟨w.heap.size + 1, 0, none⟩ = false := frozen_of_row (W'.drew.setCell ⟨w.heap.size + 2, ixx, none⟩ (.int .u64 (nb : Int))) _ _ _ _ HG1.out
      obtain ⟨Y, hY⟩ : ∃ Y, (W'.setCell ⟨w.heap.size + 2, ixx, none⟩ (.int .u64 (nb : Int))).drew = Y := ⟨_, rfl⟩
      have hY2 : W'.drew.setCell ⟨w.heap.size + 2, ixx, none⟩ (.int .u64 (nb : Int)) = Y := hY
      rw [hY2] at HFIN
      rw [hY] at c1Y z1Y ⊢
      clear hY hY2 c2d z2d
      gi_wp2
      rw [HEX.out]
      exact HFIN.out
  case stop =>
    intro D own' W' hDe hno hJ hdf
    obtain ⟨k, v0, v1, v2, v3, hk, hsk, hJ⟩ := hJ
    obtain ⟨rs, hrs⟩ : ∃ rs : ByteArray, rs = ⟨#[]⟩ := ⟨_, rfl⟩
    rw [← hrs] at hJ
    have HR : Hid (∀ W : World, Calls Try.prog 13 #[rtv ⟨v0, v1 % 4294967296, v2 % 4294967296, v3 % 4294967296, rs⟩] W fun e w' => e = .returned (.bool (rrt ⟨v0, v1 % 4294967296, v2 % 4294967296, v3 % 4294967296, rs⟩)) ∧ Below W.heap.size W w') := right_any _
    have er : rrt ⟨v0, v1 % 4294967296, v2 % 4294967296, v3 % 4294967296, rs⟩ = false := by
      rw [hrs]; unfold rrt rref
      have e : decide ((⟨#[]⟩ : ByteArray).size = 32) = false := by decide
      simp only [e, Bool.and_false]
    have es : rrt (rootOf s) = false := by
      unfold rrt rref
      have e : decide ((rootOf s).t.size = 32) = false := by
        refine decide_eq_false ?_
        show ¬ (s.extract 24 s.size).size = 32
        rw [ByteArray.size_extract]; omega
      simp only [e, Bool.and_false]
    rw [er] at HR
    rw [es] at HP
    have x1 := wrap32 v1
    have x2 := wrap32 v2
    have x3 := wrap32 v3
    clear er es hrs hk hsk
    obtain ⟨u1, hu1⟩ : ∃ n, v1 % 4294967296 = n := ⟨_, rfl⟩
    obtain ⟨u2, hu2⟩ : ∃ n, v2 % 4294967296 = n := ⟨_, rfl⟩
    obtain ⟨u3, hu3⟩ : ∃ n, v3 % 4294967296 = n := ⟨_, rfl⟩
    rw [hu1, hu2, hu3] at HR
    rw [hu1] at x1
    rw [hu2] at x2
    rw [hu3] at x3
    clear hu1 hu2 hu3
    have HDf : Hid (W'.heap[D]? = some (.deferred (some []))) := hdf
    have HD : Hid (D = Wf.heap.size) := hDe
    have c1 : W'.cell? ⟨w.heap.size + 1, 0, none⟩ = some (.string rs) := by rw [cell_of_row _ _ _ _ _ _ hJ.rest]; rfl
    have n0 : W'.cell? ⟨w.heap.size + 2, 0, none⟩ = some (.int .u64 (v0 : Int)) := by rw [cell_of_row _ _ _ _ _ _ hJ.nums]; rfl
    have n1 : W'.cell? ⟨w.heap.size + 2, 1, none⟩ = some (.int .u64 (v1 : Int)) := by rw [cell_of_row _ _ _ _ _ _ hJ.nums]; rfl
    have n2 : W'.cell? ⟨w.heap.size + 2, 2, none⟩ = some (.int .u64 (v2 : Int)) := by rw [cell_of_row _ _ _ _ _ _ hJ.nums]; rfl
    have n3 : W'.cell? ⟨w.heap.size + 2, 3, none⟩ = some (.int .u64 (v3 : Int)) := by rw [cell_of_row _ _ _ _ _ _ hJ.nums]; rfl
    have hS := HSf.out
    have hlt : w.heap.size < W'.heap.size := by have := hJ.but.size; omega
    have HG : Hid (W'.heap[w.heap.size]? = some (.cells #[.int .u64 0, .int .u32 0, .int .u32 0, .int .u32 0, .string ⟨#[]⟩] 27 (0, 0))) := (hJ.but.block _ (by omega) (by omega)).trans HT1.out
    have HB : Hid (Below w.heap.size w W') := HBf.out.trans (hJ.but.below (B := w.heap.size) (fun j hj => by omega) (by omega))
    have hDl : D < W'.heap.size := (Array.getElem?_eq_some_iff.1 hdf).1
    clear hJ hdf hDe hno hS
    gi_wp2
    obtain ⟨W3, hW3⟩ : ∃ W3, W'.alloc (.cells #[.int .u64 (v0 : Int), .int .u32 (u1 : Int), .int .u32 (u2 : Int), .int .u32 (u3 : Int), .string rs] 27) = W3 := ⟨_, rfl⟩
    have hb3 := below_new W' (.cells #[.int .u64 (v0 : Int), .int .u32 (u1 : Int), .int .u32 (u2 : Int), .int .u32 (u3 : Int), .string rs] 27)
    have hg3 := heap_alloc_new W' (.cells #[.int .u64 (v0 : Int), .int .u32 (u1 : Int), .int .u32 (u2 : Int), .int .u32 (u3 : Int), .string rs] 27)
    rw [hW3] at hb3 hg3
    have HG3 : Hid (W3.heap[w.heap.size]? = some (.cells #[.int .u64 0, .int .u32 0, .int .u32 0, .int .u32 0, .string ⟨#[]⟩] 27 (0, 0))) := (hb3.block _ hlt).trans HG.out
    have HD3 : Hid (W3.heap[D]? = some (.deferred (some []))) := (hb3.block _ hDl).trans HDf.out
    have HB3 : Hid (Below w.heap.size w W3) := HB.out.trans (hb3.mono (Nat.le_of_lt hlt))
    have HR3 : Hid (W3.heap[W'.heap.size]? = some (.cells #[.int .u64 (v0 : Int), .int .u32 (u1 : Int), .int .u32 (u2 : Int), .int .u32 (u3 : Int), .string rs] 27 (0, 0))) := hg3
    have HDl : Hid (D < W'.heap.size) := hDl
    rw [hW3]
    clear hb3 hg3 hW3 c1 n0 n1 n2 n3 hDl
    refine ⟨trivial, callsIn_wide.2 ((HR.out W3).mono ?_)⟩
    rintro e w4 ⟨rfl, b4⟩
    have lt3 : ∀ {j : Nat} {ob : Obj}, W3.heap[j]? = some ob → w4.heap[j]? = some ob := fun h => (b4.block _ (Array.getElem?_eq_some_iff.1 h).1).trans h
    have hg4 := lt3 HG3.out
    have hd4 := lt3 HD3.out
    obtain ⟨⟨r0, r1, r2, r3, r4⟩, _⟩ := root_facts (lt3 HR3.out)
    have hbw := HB3.out.trans (b4.mono HB3.out.size)
    have HG4 : Hid (w4.heap[w.heap.size]? = some (.cells #[.int .u64 0, .int .u32 0, .int .u32 0, .int .u32 0, .string ⟨#[]⟩] 27 (0, 0))) := hg4
    have HD4 : Hid (w4.heap[D]? = some (.deferred (some []))) := hd4
    have HB4 : Hid (Below w.heap.size w w4) := hbw
    have HWD : Hid (w.heap.size < D) := by refine (?_ : w.heap.size < D); have := HD.out; have := HSf.out; omega
    obtain ⟨⟨g0, g1, g2, g3, g4⟩, z0, z1, z2, z3, z4⟩ := root_facts hg4
    clear lt3 b4 hg4 hd4 hbw
    gi_wp2
    obtain ⟨X, B⟩ := put_root HG4.out (.int .u64 0) (.int .u32 0) (.int .u32 0) (.int .u32 0) (.string ⟨#[]⟩)
    rw [Exit.noGoto_ret]
    have hdx : (((((w4.setCell ⟨w.heap.size, 0, none⟩ (.int .u64 0)).setCell ⟨w.heap.size, 1, none⟩ (.int .u32 0)).setCell ⟨w.heap.size, 2, none⟩ (.int .u32 0)).setCell ⟨w.heap.size, 3, none⟩ (.int .u32 0)).setCell ⟨w.heap.size, 4, none⟩ (.string ⟨#[]⟩)).heap[D]? = some (.deferred (some [])) := by
      have hne : D ≠ w.heap.size := by have := HWD.out; omega
      rw [Below.heap_setCell _ _ _ _ (fun e => hne e), Below.heap_setCell _ _ _ _ (fun e => hne e), Below.heap_setCell _ _ _ _ (fun e => hne e), Below.heap_setCell _ _ _ _ (fun e => hne e), Below.heap_setCell _ _ _ _ (fun e => hne e)]
      exact HD4.out
    obtain ⟨W5, hW5⟩ : ∃ W5, (((((w4.setCell ⟨w.heap.size, 0, none⟩ (.int .u64 0)).setCell ⟨w.heap.size, 1, none⟩ (.int .u32 0)).setCell ⟨w.heap.size, 2, none⟩ (.int .u32 0)).setCell ⟨w.heap.size, 3, none⟩ (.int .u32 0)).setCell ⟨w.heap.size, 4, none⟩ (.string ⟨#[]⟩)) = W5 := ⟨_, rfl⟩
    rw [hW5] at X B hdx ⊢
    have hlt := (Array.getElem?_eq_some_iff.1 X).1
    refine leaves_marks2 [D] W5 (by simp) (fun E hE => by simp at hE; subst hE; exact hdx) (fun W'' hb => results_root rfl _ W'' w.heap.size _ _ _ _ _ rfl ((hb.block _ hlt (by have := HWD.out; simp; omega)).trans X)) fun W'' hb => HP.out _ _ ?_ ((HB4.out.trans B).trans ⟨hb.os, hb.tape, hb.output, hb.size, fun j hj => hb.block j (Nat.lt_trans hj hlt) (by have := HWD.out; simp; omega)⟩)
    rw [if_neg (by decide)]; rfl
  case done =>
    intro D own' W' hDe hno hJ hdf
    obtain ⟨h24, hJ⟩ := hJ
    have HR : Hid (∀ W : World, Calls Try.prog 13 #[rtv (rootOf s)] W fun e w' => e = .returned (.bool (rrt (rootOf s))) ∧ Below W.heap.size W w') := right_any (rootOf s)
    have ho := rootOf_ok s
    have e0 : (rootOf s).c = V 0 20 := HV.out 0 20
    have e1 : (rootOf s).g = V 1 20 := HV.out 1 20
    have e2 : (rootOf s).n = V 2 20 := HV.out 2 20
    have e3 : (rootOf s).p = V 3 20 := HV.out 3 20
    have e4 : (rootOf s).t = s.extract (4 + 20) s.size := rfl
    rw [e0, e1, e2, e3] at ho
    obtain ⟨_, o1, o2, o3⟩ := ho
    have x1 := wrap32 (V 1 20)
    have x2 := wrap32 (V 2 20)
    have x3 := wrap32 (V 3 20)
    rw [Nat.mod_eq_of_lt o1] at x1
    rw [Nat.mod_eq_of_lt o2] at x2
    rw [Nat.mod_eq_of_lt o3] at x3
    have HE : Hid (rtv (rootOf s) = .agg (rtc (V 0 20) (V 1 20) (V 2 20) (V 3 20) (s.extract (4 + 20) s.size))) := by refine (?_ : rtv (rootOf s) = _); unfold rtv; rw [e0, e1, e2, e3, e4]
    clear o1 o2 o3 e0 e1 e2 e3 e4
    obtain ⟨v0, h0⟩ : ∃ n, V 0 20 = n := ⟨_, rfl⟩
    obtain ⟨v1, h1⟩ : ∃ n, V 1 20 = n := ⟨_, rfl⟩
    obtain ⟨v2, h2⟩ : ∃ n, V 2 20 = n := ⟨_, rfl⟩
    obtain ⟨v3, h3⟩ : ∃ n, V 3 20 = n := ⟨_, rfl⟩
    obtain ⟨rs, hrs⟩ : ∃ n, s.extract (4 + 20) s.size = n := ⟨_, rfl⟩
    obtain ⟨rt, hrt⟩ : ∃ n, rrt (rootOf s) = n := ⟨_, rfl⟩
    rw [h0, h1, h2, h3, hrs] at hJ HE
    rw [h1] at x1
    rw [h2] at x2
    rw [h3] at x3
    rw [HE.out, hrt] at HR
    rw [hrt] at HP
    have HRT : Hid ((∃ q : Rt, q = rootOf s ∧ rtv (rootOf s) = .agg (rtc v0 v1 v2 v3 rs))) := ⟨_, rfl, HE.out⟩
    clear h0 h1 h2 h3 hrs hrt h24
    have y1 : v1 % 4294967296 = v1 % 4294967296 := rfl
    clear y1
    have HDf : Hid (W'.heap[D]? = some (.deferred (some []))) := hdf
    have HD : Hid (D = Wf.heap.size) := hDe
    have c1 : W'.cell? ⟨w.heap.size + 1, 0, none⟩ = some (.string rs) := by rw [cell_of_row _ _ _ _ _ _ hJ.rest]; rfl
    have n0 : W'.cell? ⟨w.heap.size + 2, 0, none⟩ = some (.int .u64 (v0 : Int)) := by rw [cell_of_row _ _ _ _ _ _ hJ.nums]; rfl
    have n1 : W'.cell? ⟨w.heap.size + 2, 1, none⟩ = some (.int .u64 (v1 : Int)) := by rw [cell_of_row _ _ _ _ _ _ hJ.nums]; rfl
    have n2 : W'.cell? ⟨w.heap.size + 2, 2, none⟩ = some (.int .u64 (v2 : Int)) := by rw [cell_of_row _ _ _ _ _ _ hJ.nums]; rfl
    have n3 : W'.cell? ⟨w.heap.size + 2, 3, none⟩ = some (.int .u64 (v3 : Int)) := by rw [cell_of_row _ _ _ _ _ _ hJ.nums]; rfl
    have hS := HSf.out
    have hlt : w.heap.size < W'.heap.size := by have := hJ.but.size; omega
    have HG : Hid (W'.heap[w.heap.size]? = some (.cells #[.int .u64 0, .int .u32 0, .int .u32 0, .int .u32 0, .string ⟨#[]⟩] 27 (0, 0))) := (hJ.but.block _ (by omega) (by omega)).trans HT1.out
    have HB : Hid (Below w.heap.size w W') := HBf.out.trans (hJ.but.below (B := w.heap.size) (fun j hj => by omega) (by omega))
    have hDl : D < W'.heap.size := (Array.getElem?_eq_some_iff.1 hdf).1
    clear hJ hdf hDe hno hS
    gi_wp2
    obtain ⟨W3, hW3⟩ : ∃ W3, W'.alloc (.cells #[.int .u64 (v0 : Int), .int .u32 (v1 : Int), .int .u32 (v2 : Int), .int .u32 (v3 : Int), .string rs] 27) = W3 := ⟨_, rfl⟩
    have hb3 := below_new W' (.cells #[.int .u64 (v0 : Int), .int .u32 (v1 : Int), .int .u32 (v2 : Int), .int .u32 (v3 : Int), .string rs] 27)
    have hg3 := heap_alloc_new W' (.cells #[.int .u64 (v0 : Int), .int .u32 (v1 : Int), .int .u32 (v2 : Int), .int .u32 (v3 : Int), .string rs] 27)
    rw [hW3] at hb3 hg3
    have HG3 : Hid (W3.heap[w.heap.size]? = some (.cells #[.int .u64 0, .int .u32 0, .int .u32 0, .int .u32 0, .string ⟨#[]⟩] 27 (0, 0))) := (hb3.block _ hlt).trans HG.out
    have HD3 : Hid (W3.heap[D]? = some (.deferred (some []))) := (hb3.block _ hDl).trans HDf.out
    have HB3 : Hid (Below w.heap.size w W3) := HB.out.trans (hb3.mono (Nat.le_of_lt hlt))
    have HR3 : Hid (W3.heap[W'.heap.size]? = some (.cells #[.int .u64 (v0 : Int), .int .u32 (v1 : Int), .int .u32 (v2 : Int), .int .u32 (v3 : Int), .string rs] 27 (0, 0))) := hg3
    have HDl : Hid (D < W'.heap.size) := hDl
    rw [hW3]
    clear hb3 hg3 hW3 c1 n0 n1 n2 n3 hDl
    refine ⟨trivial, callsIn_wide.2 ((HR.out W3).mono ?_)⟩
    rintro e w4 ⟨rfl, b4⟩
    have lt3 : ∀ {j : Nat} {ob : Obj}, W3.heap[j]? = some ob → w4.heap[j]? = some ob := fun h => (b4.block _ (Array.getElem?_eq_some_iff.1 h).1).trans h
    have hg4 := lt3 HG3.out
    have hd4 := lt3 HD3.out
    obtain ⟨⟨r0, r1, r2, r3, r4⟩, _⟩ := root_facts (lt3 HR3.out)
    have hbw := HB3.out.trans (b4.mono HB3.out.size)
    have HG4 : Hid (w4.heap[w.heap.size]? = some (.cells #[.int .u64 0, .int .u32 0, .int .u32 0, .int .u32 0, .string ⟨#[]⟩] 27 (0, 0))) := hg4
    have HD4 : Hid (w4.heap[D]? = some (.deferred (some []))) := hd4
    have HB4 : Hid (Below w.heap.size w w4) := hbw
    have HWD : Hid (w.heap.size < D) := by refine (?_ : w.heap.size < D); have := HD.out; have := HSf.out; omega
    obtain ⟨⟨g0, g1, g2, g3, g4⟩, z0, z1, z2, z3, z4⟩ := root_facts hg4
    clear lt3 b4 hg4 hd4 hbw
    cases rt
    · gi_wp2
      obtain ⟨X, B⟩ := put_root HG4.out (.int .u64 0) (.int .u32 0) (.int .u32 0) (.int .u32 0) (.string ⟨#[]⟩)
      rw [Exit.noGoto_ret]
      have hdx : (((((w4.setCell ⟨w.heap.size, 0, none⟩ (.int .u64 0)).setCell ⟨w.heap.size, 1, none⟩ (.int .u32 0)).setCell ⟨w.heap.size, 2, none⟩ (.int .u32 0)).setCell ⟨w.heap.size, 3, none⟩ (.int .u32 0)).setCell ⟨w.heap.size, 4, none⟩ (.string ⟨#[]⟩)).heap[D]? = some (.deferred (some [])) := by
        have hne : D ≠ w.heap.size := by have := HWD.out; omega
        rw [Below.heap_setCell _ _ _ _ (fun e => hne e), Below.heap_setCell _ _ _ _ (fun e => hne e), Below.heap_setCell _ _ _ _ (fun e => hne e), Below.heap_setCell _ _ _ _ (fun e => hne e), Below.heap_setCell _ _ _ _ (fun e => hne e)]
        exact HD4.out
      obtain ⟨W5, hW5⟩ : ∃ W5, (((((w4.setCell ⟨w.heap.size, 0, none⟩ (.int .u64 0)).setCell ⟨w.heap.size, 1, none⟩ (.int .u32 0)).setCell ⟨w.heap.size, 2, none⟩ (.int .u32 0)).setCell ⟨w.heap.size, 3, none⟩ (.int .u32 0)).setCell ⟨w.heap.size, 4, none⟩ (.string ⟨#[]⟩)) = W5 := ⟨_, rfl⟩
      rw [hW5] at X B hdx ⊢
      have hlt := (Array.getElem?_eq_some_iff.1 X).1
      refine leaves_marks2 [D] W5 (by simp) (fun E hE => by simp at hE; subst hE; exact hdx) (fun W'' hb => results_root rfl _ W'' w.heap.size _ _ _ _ _ rfl ((hb.block _ hlt (by have := HWD.out; simp; omega)).trans X)) fun W'' hb => HP.out _ _ ?_ ((HB4.out.trans B).trans ⟨hb.os, hb.tape, hb.output, hb.size, fun j hj => hb.block j (Nat.lt_trans hj hlt) (by have := HWD.out; simp; omega)⟩)
      rw [if_neg (by decide)]; rfl
    · gi_wp2
      obtain ⟨X, B⟩ := put_root HG4.out (.int .u64 (v0 : Int)) (.int .u32 (v1 : Int)) (.int .u32 (v2 : Int)) (.int .u32 (v3 : Int)) (.string rs)
      rw [Exit.noGoto_ret]
      have hdx : (((((w4.setCell ⟨w.heap.size, 0, none⟩ (.int .u64 (v0 : Int))).setCell ⟨w.heap.size, 1, none⟩ (.int .u32 (v1 : Int))).setCell ⟨w.heap.size, 2, none⟩ (.int .u32 (v2 : Int))).setCell ⟨w.heap.size, 3, none⟩ (.int .u32 (v3 : Int))).setCell ⟨w.heap.size, 4, none⟩ (.string rs)).heap[D]? = some (.deferred (some [])) := by
        have hne : D ≠ w.heap.size := by have := HWD.out; omega
        rw [Below.heap_setCell _ _ _ _ (fun e => hne e), Below.heap_setCell _ _ _ _ (fun e => hne e), Below.heap_setCell _ _ _ _ (fun e => hne e), Below.heap_setCell _ _ _ _ (fun e => hne e), Below.heap_setCell _ _ _ _ (fun e => hne e)]
        exact HD4.out
      obtain ⟨W5, hW5⟩ : ∃ W5, (((((w4.setCell ⟨w.heap.size, 0, none⟩ (.int .u64 (v0 : Int))).setCell ⟨w.heap.size, 1, none⟩ (.int .u32 (v1 : Int))).setCell ⟨w.heap.size, 2, none⟩ (.int .u32 (v2 : Int))).setCell ⟨w.heap.size, 3, none⟩ (.int .u32 (v3 : Int))).setCell ⟨w.heap.size, 4, none⟩ (.string rs)) = W5 := ⟨_, rfl⟩
      rw [hW5] at X B hdx ⊢
      have hlt := (Array.getElem?_eq_some_iff.1 X).1
      refine leaves_marks2 [D] W5 (by simp) (fun E hE => by simp at hE; subst hE; exact hdx) (fun W'' hb => results_root rfl _ W'' w.heap.size _ _ _ _ _ rfl ((hb.block _ hlt (by have := HWD.out; simp; omega)).trans X)) fun W'' hb => HP.out _ _ ?_ ((HB4.out.trans B).trans ⟨hb.os, hb.tape, hb.output, hb.size, fun j hj => hb.block j (Nat.lt_trans hj hlt) (by have := HWD.out; simp; omega)⟩)
      rw [if_pos trivial, HE.out]
end Go.Proofs.Ytofealdlgpmheaa.Ro
/- Roots held against each other; slots; what Decode and Next tell. -/
namespace Go.Proofs.Ytofealdlgpmheaa.Ro
open Go.RowKit Go.Lib Go.Shelf
open Go.Proofs.Ytofealdlgpmheaa.Rc Go.Proofs.Ytofealdlgpmheaa.Rq
set_option maxRecDepth 100000 in
theorem ba_ne {a b : ByteArray} (h : a ≠ b) : ¬ a.toList = b.toList := by
  rw [ByteArray.toList_eq, ByteArray.toList_eq]
  exact fun e => h (ByteArray.ext (Array.toList_inj.1 e))
def eqF (p q : Nat) (c d : ByteArray) : Bool := decide (p = q) && decide (c = d)
def eqR (a b : Rt) : Bool := decide (a.c = b.c) && (decide (a.g = b.g) && (decide (a.n = b.n) && eqF a.p b.p a.t b.t))
set_option maxRecDepth 100000 in
theorem eqR_iff (a b : Rt) : eqR a b = true ↔ a = b := by
  unfold eqR eqF
  simp only [Bool.and_eq_true, decide_eq_true_eq]
  refine ⟨fun h => ?_, fun h => by rw [h]; exact ⟨rfl, rfl, rfl, rfl, rfl⟩⟩
  obtain ⟨a1, a2, a3, a4, a5⟩ := a
  obtain ⟨b1, b2, b3, b4, b5⟩ := b
  obtain ⟨h1, h2, h3, h4, h5⟩ := h
  simp only at h1 h2 h3 h4 h5
  subst h1 h2 h3 h4 h5
  rfl
set_option maxRecDepth 100000 in
theorem eq_in_ref (p q : Nat) (c d : ByteArray) (w : World) : (Op.equalIn 9999 25 (.agg #[.int .u32 (p : Int), .string c]) (.agg #[.int .u32 (q : Int), .string d])).run Try.prog w = .ok (eqF p q c d) w := by
  have hS : Try.prog.underlying 25 = some (.struct (Try.prog.fieldsOf 25)) := by kernel_rfl
  have hp : Try.prog.stoodInHeld 25 = false := by kernel_rfl
  have u2 := Try.underlying23
  have u9 := Try.underlying9
  rw [show (9999 : Nat) = 9998 + 1 from rfl, run_equalIn_agg w 9998 25 _ _ hS hp]
  simp only [Program.fieldsOf, Try.underlying25]
  unfold eqF
  clear hS hp
  by_cases h1 : p = q
  · subst h1
    by_cases h4 : c = d
    · subst h4
      go_simp
    · go_simp
      exact fun e => ba_ne h4 e
  · go_simp
    exact fun e => absurd (Int.ofNat_inj.1 e) h1
set_option maxRecDepth 100000 in
set_option maxHeartbeats 1000000 in
theorem eql_root (a b : Rt) (w : World) : (binOp .eql 27 (rtv a) (rtv b)).run Try.prog w = .ok (.bool (eqR a b)) w := by
  obtain ⟨a1, a2, a3, a4, a5⟩ := a
  obtain ⟨b1, b2, b3, b4, b5⟩ := b
  have hS : Try.prog.underlying 27 = some (.struct (Try.prog.fieldsOf 27)) := by kernel_rfl
  have hp : Try.prog.stoodInHeld 27 = false := by kernel_rfl
  have u2 := Try.underlying23
  have u6 := Try.underlying22
  have hin := fun w => eq_in_ref a4 b4 a5 b5 w
  rw [run_eql_struct, show (10000 : Nat) = 9999 + 1 from rfl, run_equalIn_agg w 9999 27 _ _ hS hp]
  simp only [Program.fieldsOf, Try.underlying27]
  clear hS hp
  have e1 : eqR ⟨a1, a2, a3, a4, a5⟩ ⟨b1, b2, b3, b4, b5⟩ = (decide (a1 = b1) && (decide (a2 = b2) && (decide (a3 = b3) && eqF a4 b4 a5 b5))) := rfl
  rw [e1]
  generalize eqF a4 b4 a5 b5 = F at hin ⊢
  by_cases h1 : a1 = b1
  · subst h1
    by_cases h2 : a2 = b2
    · subst h2
      by_cases h3 : a3 = b3
      · subst h3
        cases F <;> simp [go_sem, hin, u2, u6, Result.andThen]
      · have k3 : ((a3 : Int) == (b3 : Int)) = false := by simp; omega
        simp [go_sem, u2, u6, h3, k3, Result.andThen]
    · have k2 : ((a2 : Int) == (b2 : Int)) = false := by simp; omega
      simp [go_sem, u2, u6, h2, k2, Result.andThen]
  · have k1 : ((a1 : Int) == (b1 : Int)) = false := by simp; omega
    simp [go_sem, u6, h1, k1, Result.andThen]
set_option maxRecDepth 100000 in
theorem neq_root (a b : Rt) (w : World) : (binOp .neq 27 (rtv a) (rtv b)).run Try.prog w = .ok (.bool (!eqR a b)) w := by
  have h := eql_root a b w
  rw [run_eql_struct] at h
  rw [run_neq_struct]
  cases e : (Op.equalIn 10000 27 (rtv a) (rtv b)).run Try.prog w with
  | ok b w' => rw [e] at h; simp [Result.andThen] at h ⊢; simp [h]
  | _ => rw [e] at h; simp [Result.andThen] at h
set_option maxRecDepth 100000 in
theorem slot_any (c : Nat) (w : World) : Calls Try.prog 15 #[.int .u64 (c : Int)] w fun e w' => e = .returned (.int .u32 ((c % 2 : Nat) : Int)) ∧ w' = w := by
  have h : IntKind.u32.wrap ((c : Int) % 2) = ((c % 2 : Nat) : Int) := by rw [IntKind.wrap_u32]; omega
  have h0 : (0 : Int) ≤ (c : Int) := by omega
  go_enter Try.func15, Try.ntmps15
  go_wp2_with fail
  go_ret
  exact ⟨by first | rfl | (congr 2; omega), rfl⟩
set_option maxRecDepth 100000 in
theorem read_any (s : ByteArray) (w : World) : Calls Try.prog 26 #[.string s] w fun e w' => e = .returned (rtv (rdR s)) ∧ Below w.heap.size w w' := by
  unfold rdR okD
  cases hM : hasM s
  · exact read_no s w hM
  · simp only [Bool.true_and]
    exact read_ok s w hM
set_option maxRecDepth 100000 in
theorem rrt_pos {r : Rt} (h : rrt r = true) : eqR r zeroR = false := by
  cases e : eqR r zeroR
  · rfl
  · rw [(eqR_iff _ _).1 e] at h
    simp [rrt] at h
set_option maxRecDepth 100000 in
theorem zeroR_is : eqR zeroR zeroR = true := (eqR_iff _ _).2 rfl
set_option maxRecDepth 100000 in
theorem rdR_zero (s : ByteArray) : eqR (rdR s) zeroR = !okD s := by
  unfold rdR
  cases h : okD s
  · simpa using zeroR_is
  · unfold okD at h
    simp only [Bool.and_eq_true] at h
    simpa using rrt_pos h.2
set_option maxRecDepth 100000 in
set_option maxHeartbeats 2000000 in
theorem decode_no (s : ByteArray) (w : World) (hok : okD s = false) : Calls Try.prog 16 #[.string s] w fun e w' => e = .returned (.tuple #[rtv zeroR, .int .i64 120]) ∧ Below w.heap.size w w' := by
  have hr0 := read_any s
  have hz := rdR_zero s
  unfold rdR at hr0 hz
  rw [hok] at hr0 hz
  simp only [Bool.false_eq_true, if_false] at hr0
  have e0 : rtv zeroR = .agg #[.int .u64 0, .int .u32 0, .int .u32 0, .int .u32 0, .string ⟨#[]⟩] := rfl
  have heq := fun W => eql_root zeroR zeroR W
  rw [zeroR_is, e0] at heq
  rw [e0] at hr0 ⊢
  clear e0
  have HR : Hid (∀ W : World, Calls Try.prog 26 #[.string s] W fun e w' => e = .returned (.agg #[.int .u64 0, .int .u32 0, .int .u32 0, .int .u32 0, .string ⟨#[]⟩]) ∧ Below W.heap.size W w') := hr0
  have h0 := heap_alloc_new w (.cells #[.int .u64 0, .int .u32 0, .int .u32 0, .int .u32 0, .string ⟨#[]⟩] 27)
  have h1 := below_new w (.cells #[.int .u64 0, .int .u32 0, .int .u32 0, .int .u32 0, .string ⟨#[]⟩] 27)
  obtain ⟨W1, hW1⟩ : ∃ W1, w.alloc (.cells #[.int .u64 0, .int .u32 0, .int .u32 0, .int .u32 0, .string ⟨#[]⟩] 27) = W1 := ⟨_, rfl⟩
  rw [hW1] at h0 h1
  have HG1 : Hid (W1.heap[w.heap.size]? = some (.cells #[.int .u64 0, .int .u32 0, .int .u32 0, .int .u32 0, .string ⟨#[]⟩] 27 (0, 0))) := h0
  have HB1 : Hid (Below w.heap.size w W1) := h1
  have HW1 : Hid _ := hW1
  clear hr0 hz h0 h1 hW1 hok
  go_enter Try.func16, Try.ntmps16
  go_wp2_with fail
  rw [HW1.out]
  clear HW1
  refine (HR.out W1).mono ?_
  rintro e w2 ⟨rfl, b2⟩
  have hg2 := (b2.block _ (Array.getElem?_eq_some_iff.1 HG1.out).1).trans HG1.out
  have hb3 := below_new w2 (.cells #[.int .u64 0, .int .u32 0, .int .u32 0, .int .u32 0, .string ⟨#[]⟩] 27)
  have hg3 := heap_alloc_new w2 (.cells #[.int .u64 0, .int .u32 0, .int .u32 0, .int .u32 0, .string ⟨#[]⟩] 27)
  have hgr := (hb3.block _ (Array.getElem?_eq_some_iff.1 hg2).1).trans hg2
  obtain ⟨⟨c0, c1, c2, c3, c4⟩, -⟩ := root_facts hg3
  obtain ⟨-, z0, z1, z2, z3, z4⟩ := root_facts hgr
  obtain ⟨⟨d0, d1, d2, d3, d4⟩, -⟩ := root_facts hgr
  have HB3 : Hid (Below w.heap.size w (w2.alloc (.cells #[.int .u64 0, .int .u32 0, .int .u32 0, .int .u32 0, .string ⟨#[]⟩] 27))) := (HB1.out.trans (b2.mono HB1.out.size)).trans (hb3.mono (HB1.out.trans (b2.mono HB1.out.size)).size)
  have HG3 : Hid ((w2.alloc (.cells #[.int .u64 0, .int .u32 0, .int .u32 0, .int .u32 0, .string ⟨#[]⟩] 27)).heap[w.heap.size]? = some (.cells #[.int .u64 0, .int .u32 0, .int .u32 0, .int .u32 0, .string ⟨#[]⟩] 27 (0, 0))) := hgr
  clear hb3 hg3 hgr hg2 b2
  go_wp2_with fail

  obtain ⟨X, B⟩ := put_root HG3.out (.int .u64 0) (.int .u32 0) (.int .u32 0) (.int .u32 0) (.string ⟨#[]⟩)
  exact bodyPost_ret (results_root2 rfl _ _ w.heap.size _ _ _ _ _ rfl rfl X) rfl ⟨rfl, HB3.out.trans B⟩
set_option maxRecDepth 100000 in
set_option maxHeartbeats 2000000 in
theorem decode_ok (s : ByteArray) (w : World) (hok : okD s = true) : Calls Try.prog 16 #[.string s] w fun e w' => e = .returned (.tuple #[rtv (rootOf s), .int .i64 0]) ∧ Below w.heap.size w w' := by
  have hr0 := read_any s
  have hz := rdR_zero s
  unfold rdR at hr0 hz
  rw [hok] at hr0 hz
  simp only [if_true, Bool.not_true] at hr0 hz
  have heq := fun W => eql_root (rootOf s) zeroR W
  rw [hz] at heq
  obtain ⟨r, hr⟩ : ∃ r, rootOf s = r := ⟨_, rfl⟩
  rw [hr] at heq hr0 ⊢
  obtain ⟨c, g, n, p, t⟩ := r
  have e0 : rtv zeroR = .agg #[.int .u64 0, .int .u32 0, .int .u32 0, .int .u32 0, .string ⟨#[]⟩] := rfl
  rw [e0] at heq
  clear e0
  have HR : Hid (∀ W : World, Calls Try.prog 26 #[.string s] W fun e w' => e = .returned (.agg #[.int .u64 (c : Int), .int .u32 (g : Int), .int .u32 (n : Int), .int .u32 (p : Int), .string t]) ∧ Below W.heap.size W w') := hr0
  have h0 := heap_alloc_new w (.cells #[.int .u64 0, .int .u32 0, .int .u32 0, .int .u32 0, .string ⟨#[]⟩] 27)
  have h1 := below_new w (.cells #[.int .u64 0, .int .u32 0, .int .u32 0, .int .u32 0, .string ⟨#[]⟩] 27)
  obtain ⟨W1, hW1⟩ : ∃ W1, w.alloc (.cells #[.int .u64 0, .int .u32 0, .int .u32 0, .int .u32 0, .string ⟨#[]⟩] 27) = W1 := ⟨_, rfl⟩
  rw [hW1] at h0 h1
  have HG1 : Hid (W1.heap[w.heap.size]? = some (.cells #[.int .u64 0, .int .u32 0, .int .u32 0, .int .u32 0, .string ⟨#[]⟩] 27 (0, 0))) := h0
  have HB1 : Hid (Below w.heap.size w W1) := h1
  have HW1 : Hid _ := hW1
  clear hr0 hz h0 h1 hW1 hok hr
  go_enter Try.func16, Try.ntmps16
  go_wp2_with fail
  rw [HW1.out]
  clear HW1
  refine (HR.out W1).mono ?_
  rintro e w2 ⟨rfl, b2⟩
  have hg2 := (b2.block _ (Array.getElem?_eq_some_iff.1 HG1.out).1).trans HG1.out
  obtain ⟨W3, hW3⟩ : ∃ W3, w2.alloc (.cells #[.int .u64 (c : Int), .int .u32 (g : Int), .int .u32 (n : Int), .int .u32 (p : Int), .string t] 27) = W3 := ⟨_, rfl⟩
  have hb3 := below_new w2 (.cells #[.int .u64 (c : Int), .int .u32 (g : Int), .int .u32 (n : Int), .int .u32 (p : Int), .string t] 27)
  have hg3 := heap_alloc_new w2 (.cells #[.int .u64 (c : Int), .int .u32 (g : Int), .int .u32 (n : Int), .int .u32 (p : Int), .string t] 27)
  rw [hW3] at hb3 hg3
  have hgr := (hb3.block _ (Array.getElem?_eq_some_iff.1 hg2).1).trans hg2
  obtain ⟨⟨c0, c1, c2, c3, c4⟩, -⟩ := root_facts hg3
  obtain ⟨-, z0, z1, z2, z3, z4⟩ := root_facts hgr
  obtain ⟨⟨d0, d1, d2, d3, d4⟩, -⟩ := root_facts hgr
  have HB3 : Hid (Below w.heap.size w W3) := (HB1.out.trans (b2.mono HB1.out.size)).trans (hb3.mono (HB1.out.trans (b2.mono HB1.out.size)).size)
  have HG3 : Hid (W3.heap[w.heap.size]? = some (.cells #[.int .u64 0, .int .u32 0, .int .u32 0, .int .u32 0, .string ⟨#[]⟩] 27 (0, 0))) := hgr
  have HW3 : Hid (w2.alloc (.cells #[.int .u64 (c : Int), .int .u32 (g : Int), .int .u32 (n : Int), .int .u32 (p : Int), .string t] 27) = W3) := hW3
  clear hb3 hg3 hgr hg2 b2 hW3
  go_wp2_with (first | (rw [HW3.out]; clear HW3))
  obtain ⟨X, B⟩ := put_root HG3.out (.int .u64 (c : Int)) (.int .u32 (g : Int)) (.int .u32 (n : Int)) (.int .u32 (p : Int)) (.string t)
  exact bodyPost_ret (results_root2 rfl _ _ w.heap.size _ _ _ _ _ rfl rfl X) rfl ⟨rfl, HB3.out.trans B⟩
end Go.Proofs.Ytofealdlgpmheaa.Ro
