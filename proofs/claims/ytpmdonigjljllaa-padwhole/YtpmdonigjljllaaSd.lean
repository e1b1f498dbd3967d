/- PadWhole: the walk. -/
import Derived.Test.YtpmdonigjljllaaSc
namespace Go.Proofs.Ytpmdonigjljllaa
open Go.RowKit
/-- The first k parts behind each other. -/
def catP (s : ByteArray) (k : Nat) : ByteArray := s.extract 0 (min (198 * k) s.size)
theorem catP_size (s : ByteArray) (k : Nat) : (catP s k).size = min (198 * k) s.size := by unfold catP; rw [ext_size]; omega
theorem catP_zero (s : ByteArray) : catP s 0 = ⟨#[]⟩ := by
  refine bt_same _ _ (by rw [catP_size]; show _ = 0; omega) fun j hj => ?_
  rw [catP_size] at hj
  omega
theorem catP_succ (s : ByteArray) (k : Nat) (h : k < nParts s) : catP s k ++ part s k = catP s (k + 1) := by
  have h1 := (nParts_lt s k).1 h
  have z := catP_size s k
  have zp : (part s k).size = min (198 * k + 198) s.size - 198 * k := by unfold part; rw [ext_size]; omega
  refine bt_same _ _ (by rw [ByteArray.size_append, catP_size, catP_size, zp]; omega) fun j hj => ?_
  rw [ByteArray.size_append, z, zp] at hj
  rw [bt_app, z]
  unfold catP part
  by_cases e : j < min (198 * k) s.size
  · rw [if_pos e, bt_ext _ _ _ _ (by omega), bt_ext _ _ _ _ (by omega)]
  · rw [if_neg e, bt_ext _ _ _ _ (by omega), bt_ext _ _ _ _ (by omega), show 198 * k + (j - min (198 * k) s.size) = 0 + j by omega]
theorem catP_all (s : ByteArray) : catP s (nParts s) = s := by
  have h := nParts_lt s (nParts s)
  have z := catP_size s (nParts s)
  refine bt_same _ _ (by omega) fun j hj => ?_
  unfold catP
  rw [bt_ext _ _ _ _ (by omega), Nat.zero_add]
theorem not_empty (x : ByteArray) (h : 1 ≤ x.size) : x.toList.isEmpty = false := by
  have hx : x ≠ ⟨#[]⟩ := by intro e; rw [e] at h; exact absurd h (by decide)
  rw [ByteArray.toList_eq]
  cases he : x.data.toList.isEmpty
  · rfl
  · exact (hx (ByteArray.ext (Array.toList_inj.1 (List.isEmpty_iff.1 he)))).elim
set_option maxRecDepth 100000 in
set_option maxHeartbeats 2000000 in
theorem padWhole_walk (s0 : ByteArray) (w : World) :
    Calls Try.prog 8 #[.string s0] w fun e w' => e = .returned (.bool true) ∧ Below w.heap.size w w' := by
  obtain ⟨t, r, hr, hrs, ht, hts⟩ := cut_is s0
  have hh := run_head s0 r hrs
  rw [ht] at hh
  have CT : Hid (∀ w : World, Calls Try.prog 15 #[.string t] w fun e w' => ∃ o cap, e = .returned (.slice o (cutS t).length cap) ∧ Strs w' o (cutS t) ∧ Below w.heap.size w w') := fun w => cut_any t hts w
  have HL : Hid ((cutS t).length ≤ 26) := cutS_length t hts
  have HN : Hid ((cutS t).length = nParts t) := partsS_length t (nParts t)
  have HA : Hid (∀ k, k < nParts t → sat (cutS t) k = part t k) := fun k h => sat_parts t _ k h
  have HT : Hid (t.size ≤ 5000) := hts
  have HR : Hid ((if (5000 : Int) < (s0.size : Int) then (5000 : Int) else (s0.size : Int)) = (r : Int)) := hr
  generalize cutS t = l at *
  clear ht hts hrs hr
  go_enter Try.func8, Try.ntmps8
  go_wp2_with fail
  refine (shown_any w).mono ?_
  rintro e w1 ⟨rfl, b1⟩
  have B1 : Hid (Below w.heap.size w w1) := b1
  clear b1
  go_wp2_with (first
    | (refine list_min rfl 3 3 (.tmp 12) (.const (.int .i64 5000)) rfl (p := (s0.size : Int)) (q := 5000) rfl rfl HR.out ?_))
  refine (CT.out w1).mono ?_
  rintro e w2 ⟨o, cap, rfl, st2, b2⟩
  have B2 : Hid (Below w.heap.size w w2) := B1.out.trans (b2.mono B1.out.size)
  have S2 : Hid (Strs w2 o l) := st2
  have n0 : (0 : Int) ≤ (l.length : Int) := by omega
  have n1 : (l.length : Int) ≤ 26 := by have := HL.out; omega
  clear b2 B1 st2 CT HR hh
  go_wp2_with fail
  go_loopw [5, 6] (fun v i wr => ∃ k : Nat, k ≤ l.length ∧ v = .string (catP t k) ∧ i = .int .i64 (k : Int) ∧ Below w2.heap.size w2 wr) (fun _ i _ => l.length - natOf i)
  case atStart => exact ⟨0, by omega, by rw [catP_zero], rfl, Below.refl _ _⟩
  case round =>
    obtain ⟨k, hk, rfl, rfl, hb⟩ := hrel
    have HB : Hid (Below w2.heap.size w2 wr) := hb
    by_cases hlt : k < l.length
    · have g0 : (k : Int) < (l.length : Int) := by omega
      have g1 : (0 : Int) ≤ (k : Int) := by omega
      have hkn : k < nParts t := by have := HN.out; omega
      have hne : l ≠ [] := by intro e; rw [e] at hlt; simp at hlt
      obtain ⟨b, rfl, hbl, hc⟩ := S2.out hne
      have c2 := hc k hlt
      rw [HA.out k hkn] at c2
      have c1 : wr.cell? ⟨b, k, none⟩ = some (.string (part t k)) := (World.cell?_of_block (a := ⟨b, k, none⟩) (hb.block b hbl)).trans c2
      obtain ⟨p1, p2, p3⟩ := part_size t k hkn
      have HC : Hid (catP t k ++ part t k = catP t (k + 1)) := catP_succ t k hkn
      have hz1 := catP_size t k
      have u1 : ¬ 9223372036854775807 < (catP t k).size + (part t k).size := by have := HT.out; omega
      have he := not_empty _ p1
      have P1 := padIs (part t k)
      rw [(pad_short _ p2).1, (pad_short _ p2).2] at P1
      have HP : Hid (PadIs (part t k) (bodyS (part t k)) 0) := P1
      have H3 : Hid (k + 1 < nParts t → (part t k).size = 198) := p3
      have HC2 : Hid (w2.cell? ⟨b, k, none⟩ = some (.string (part t k))) := c2
      have HBL : Hid (b < w2.heap.size) := hbl
      generalize bodyS (part t k) = y at *
      generalize part t k = x at *
      generalize catP t k = z at *
      clear hc c2 P1 p3 hb hz1
      go_wp2_with fail
      refine (HP.out wr).mono ?_
      rintro e w3 ⟨rfl, b3⟩
      have HB3 : Hid (Below w2.heap.size w2 w3) := HB.out.trans (b3.mono HB.out.size)
      have c3 : w3.cell? ⟨b, k, none⟩ = some (.string x) := (World.cell?_of_block (a := ⟨b, k, none⟩) (HB3.out.block b HBL.out)).trans HC2.out
      clear b3 c1
      by_cases hl : (k : Int) < (l.length : Int) - 1
      · have q1 : (x.size : Int) = 198 := by
          have := H3.out (by have := HN.out; omega)
          omega
        go_wp2_with fail
        go_roundw
        case rel => exact ⟨k + 1, by omega, by rw [HC.out], by go_num, HB3.out⟩
        case measure => simp [natOf]; omega
      · go_wp2_with fail
        go_roundw
        case rel => exact ⟨k + 1, by omega, by rw [HC.out], by go_num, HB3.out⟩
        case measure => simp [natOf]; omega
    · have g0 : ¬ (k : Int) < (l.length : Int) := by omega
      have hkn : k = nParts t := by have := HN.out; omega
      rw [hkn, catP_all]
      clear hb
      go_wp2_with fail
      go_ret
      exact ⟨rfl, B2.out.trans (HB.out.mono B2.out.size)⟩
end Go.Proofs.Ytpmdonigjljllaa
