/- The document's own device: Wake. -/
import Derived.Test.YtkpfnepbnaekoaaPRC
namespace Go.Proofs.Ytkpfnepbnaekoaa.Rd
open Go.RowKit
set_option maxRecDepth 100000 in
set_option maxHeartbeats 4000000 in
theorem rwake_any (r : Nat) (x : Rp) (s : St) (fs : List Int) (fo : Option Addr) (fc : Nat) (w : World) (h : Rf w r x s) (hk : Ok s) (hf : Fs w fo fs) (hfb : fs ≠ [] → ∀ a, fo = some a → ¬ Rv r x a.block) :
    Calls Try.prog 37 #[pt r, .slice fo fs.length fc] w fun e w' => e = .returned (.tuple #[]) ∧ Rf w' r x (wakeS s fs) ∧ But (Rv r x) w w' := by
  have HD : Hid (Rf w r x s) := h
  have HK : Hid (Ok s) := hk
  have HFS : Hid _ := hf
  have HFB : Hid _ := hfb
  have n1 := hk.n1
  clear h hk hf hfb
  go_enter Try.func37, Try.ntmps37
  go_wp2_with fail
  go_loopw [4, 5] (fun kv iv wr => ∃ (k c : Nat), iv = .int .i64 (k : Int) ∧ kv = .int .i64 (c : Int) ∧ k ≤ s.n ∧ c = rank s.pd k ∧ Rf wr r x (wkK s fs k) ∧ But (Rv r x) w wr ∧ Fs wr fo fs) (fun _ iv _ => s.n - natOf iv)
  case atStart => exact ⟨0, 0, rfl, rfl, by omega, rfl, by rw [wkK_zero]; exact HD.out, But.refl _ _, HFS.out⟩
  case round =>
    obtain ⟨k, c, rfl, rfl, hkn, hcr, hf, hb, hfs⟩ := hrel
    obtain ⟨c0, z0⟩ : wr.cell? ⟨r, 0, none⟩ = some (.slice (some ⟨x.l, 0, none⟩) s.n x.lc) ∧ _ := hf.c0
    obtain ⟨c1, z1⟩ : wr.cell? ⟨r, 1, none⟩ = some (.slice (some ⟨x.p, 0, none⟩) s.n x.pc) ∧ _ := hf.c1
    have HF : Hid _ := hf
    have HB : Hid _ := hb
    have FS : Hid _ := hfs
    have HCR : Hid (c = rank s.pd k) := hcr
    have hck : c ≤ k := by rw [hcr]; exact rank_le _ _
    clear hf hb hfs hcr
    by_cases hlt : k < s.n
    · have q1 : (k : Int) < (s.n : Int) := by omega
      have q0 : (0 : Int) ≤ (k : Int) := by omega
      have q0c : (0 : Int) ≤ (c : Int) := by omega
      obtain ⟨e0, y0⟩ := HF.out.rl.cell k hlt
      obtain ⟨e1, y1⟩ := HF.out.rp.cell k hlt
      have hpk : pend (wkK s fs k).pd k = (s.pd k).getD ⟨#[]⟩ := by unfold pend wkK; simp
      have htk : (wkK s fs k).tx k = s.tx k := by unfold wkK; simp
      rw [hpk] at e1
      rw [htk] at e0
      clear hpk htk
      cases hp : s.pd k with
      | none =>
        rw [hp] at e1
        simp only [Option.getD_none] at e1
        have HN : Hid _ := wkK_none s fs k hp
        have HRK : Hid (rank s.pd (k + 1) = rank s.pd k) := by
          refine (?_ : rank s.pd (k + 1) = rank s.pd k)
          rw [rank_succ, hp]; simp
        clear hp
        go_wp2_with fail
        go_roundw
        case rel => exact ⟨k + 1, c, by go_num, rfl, by omega, by rw [HRK.out, HCR.out], by rw [HN.out]; exact HF.out, HB.out, FS.out⟩
        case measure => simp [natOf]; omega
      | some t =>
        rw [hp] at e1
        simp only [Option.getD_some] at e1
        have hz1 := (HK.out.pd k t hp).2
        have hz0 := HK.out.tx k hlt
        have hz := nonempty_of hz1
        have HN : Hid _ := wkK_some s fs k t hp
        have HRK : Hid (rank s.pd (k + 1) = rank s.pd k + 1) := by
          refine (?_ : rank s.pd (k + 1) = rank s.pd k + 1)
          rw [rank_succ, hp]; simp
        have HWT : Hid (wakeTx s fs k = torn t (s.tx k) (kept fs c)) := by
          refine (?_ : wakeTx s fs k = torn t (s.tx k) (kept fs c))
          unfold wakeTx; rw [hp, HCR.out]
        have hx4 := HF.out.n4
        have hx1 := HF.out.n1
        have hx2 := HF.out.n2
        have H1 : Hid _ := HF.out.setL k hlt (wakeTx s fs k)
        have HD1 : Hid (Rf (wr.setCell ⟨x.l, k, none⟩ (.string (wakeTx s fs k))).drew r x { wkK s fs k with tx := at' (wkK s fs k).tx k (wakeTx s fs k) }) := H1.out.1.same fun _ _ => rfl
        have BD : Hid (But (Rv r x) (wr.setCell ⟨x.l, k, none⟩ (.string (wakeTx s fs k))) (wr.setCell ⟨x.l, k, none⟩ (.string (wakeTx s fs k))).drew) := ⟨rfl, rfl, rfl, Nat.le_refl _, fun _ _ _ => rfl⟩
        have H2 : Hid _ := HD1.out.dropP k hlt
        have FS' : Hid (Fs ((wr.setCell ⟨x.l, k, none⟩ (.string (wakeTx s fs k))).drew.setCell ⟨x.p, k, none⟩ (.string ⟨#[]⟩)) fo fs) := fun hne => (Fs.but FS.out (H1.out.2.trans (BD.out.trans H2.out.2)) (HFB.out hne)) hne
        generalize hold : s.tx k = old at *
        clear hp hold
        have hex : old.extract 0 256 = old := by rw [← hz0]; exact ByteArray.extract_zero_size
        by_cases hcl : c < fs.length
        · have q2 : (c : Int) < (fs.length : Int) := by omega
          obtain ⟨fb, off, rfl, hfl, hfc⟩ := FS.out (by intro e; rw [e] at hcl; simp at hcl)
          obtain ⟨f, hfi⟩ : ∃ f, fs[c]? = some f := ⟨_, List.getElem?_eq_getElem hcl⟩
          have x3 := hfc c f hfi
          have HFI : Hid _ := hfi
          clear hfc hfi
          by_cases hf1 : 1 ≤ f
          · by_cases hf4 : f ≤ 4
            · obtain ⟨m, hm64⟩ : ∃ m : Nat, 64 * f = (m : Int) := ⟨(64 * f).toNat, by omega⟩
              have hm256 : m ≤ 256 := by omega
              have hm : Hid (kept fs c = m) := by
                refine (?_ : kept fs c = m)
                unfold kept; rw [HFI.out]; simp only; rw [if_pos ⟨hf1, hf4⟩]; omega
              obtain ⟨nw, hnw⟩ : ∃ nw, t.extract 0 m ++ old.extract m 256 = nw := ⟨_, rfl⟩
              have hw : wakeTx s fs k = nw := by rw [HWT.out, hm.out, ← hnw, ← hz0]; rfl
              rw [hw] at H1 HD1 BD H2 FS' HN
              clear hw
              have HM64 : Hid _ := hm64
              clear hm64
              go_wp2_with fail
              rw [HM64.out]
              have hza : (t.extract 0 m).size = m := by rw [ByteArray.size_extract]; omega
              have hzb : (old.extract m 256).size = 256 - m := by rw [ByteArray.size_extract]; omega
              have hl : ¬ 9223372036854775807 < m + (256 - m) := by omega
              have HNW : Hid _ := hnw
              clear hnw
              go_region
              rw [HNW.out]
              obtain ⟨c1', z1'⟩ : (wr.setCell ⟨x.l, k, none⟩ (.string nw)).drew.cell? ⟨r, 1, none⟩ = some (.slice (some ⟨x.p, 0, none⟩) s.n x.pc) ∧ _ := HD1.out.c1
              obtain ⟨e1', y1'⟩ := HD1.out.rp.cell k hlt
              go_wp2_with fail
              go_roundw
              case rel => exact ⟨k + 1, c + 1, by go_num, by go_num, by omega, by rw [HRK.out, HCR.out], by rw [HN.out]; exact H2.out.1, (HB.out.trans H1.out.2).trans (BD.out.trans H2.out.2), FS'.out⟩
              case measure => simp [natOf]; omega
            · have hm : Hid (kept fs c = 0) := by
                refine (?_ : kept fs c = 0)
                unfold kept; rw [HFI.out]; simp; omega
              have hw : wakeTx s fs k = old := by rw [HWT.out, hm.out, torn_zero]
              rw [hw] at H1 HD1 BD H2 FS' HN
              clear hw
              go_wp2_with fail
              go_region
              obtain ⟨c1', z1'⟩ : (wr.setCell ⟨x.l, k, none⟩ (.string old)).drew.cell? ⟨r, 1, none⟩ = some (.slice (some ⟨x.p, 0, none⟩) s.n x.pc) ∧ _ := HD1.out.c1
              obtain ⟨e1', y1'⟩ := HD1.out.rp.cell k hlt
              go_wp2_with fail
              go_roundw
              case rel => exact ⟨k + 1, c + 1, by go_num, by go_num, by omega, by rw [HRK.out, HCR.out], by rw [HN.out]; exact H2.out.1, (HB.out.trans H1.out.2).trans (BD.out.trans H2.out.2), FS'.out⟩
              case measure => simp [natOf]; omega
          · have hm : Hid (kept fs c = 0) := by
              refine (?_ : kept fs c = 0)
              unfold kept; rw [HFI.out]; simp; omega
            have hw : wakeTx s fs k = old := by rw [HWT.out, hm.out, torn_zero]
            rw [hw] at H1 HD1 BD H2 FS' HN
            clear hw
            go_wp2_with fail
            go_region
            obtain ⟨c1', z1'⟩ : (wr.setCell ⟨x.l, k, none⟩ (.string old)).drew.cell? ⟨r, 1, none⟩ = some (.slice (some ⟨x.p, 0, none⟩) s.n x.pc) ∧ _ := HD1.out.c1
            obtain ⟨e1', y1'⟩ := HD1.out.rp.cell k hlt
            go_wp2_with fail
            go_roundw
            case rel => exact ⟨k + 1, c + 1, by go_num, by go_num, by omega, by rw [HRK.out, HCR.out], by rw [HN.out]; exact H2.out.1, (HB.out.trans H1.out.2).trans (BD.out.trans H2.out.2), FS'.out⟩
            case measure => simp [natOf]; omega
        · have q2 : ¬ (c : Int) < (fs.length : Int) := by omega
          have hm : Hid (kept fs c = 0) := by
            refine (?_ : kept fs c = 0)
            unfold kept; rw [List.getElem?_eq_none (by omega)]
          have hw : wakeTx s fs k = old := by rw [HWT.out, hm.out, torn_zero]
          rw [hw] at H1 HD1 BD H2 FS' HN
          clear hw
          go_wp2_with fail
          go_region
          obtain ⟨c1', z1'⟩ : (wr.setCell ⟨x.l, k, none⟩ (.string old)).drew.cell? ⟨r, 1, none⟩ = some (.slice (some ⟨x.p, 0, none⟩) s.n x.pc) ∧ _ := HD1.out.c1
          obtain ⟨e1', y1'⟩ := HD1.out.rp.cell k hlt
          go_wp2_with fail
          go_roundw
          case rel => exact ⟨k + 1, c + 1, by go_num, by go_num, by omega, by rw [HRK.out, HCR.out], by rw [HN.out]; exact H2.out.1, (HB.out.trans H1.out.2).trans (BD.out.trans H2.out.2), FS'.out⟩
          case measure => simp [natOf]; omega
    · have q1 : ¬ (k : Int) < (s.n : Int) := by omega
      have hk : k = s.n := by omega
      have HKN : Hid (k = s.n) := hk
      obtain ⟨c6, z6⟩ := HF.out.c6
      obtain ⟨c7, z7⟩ := HF.out.c7
      clear hk
      go_wp2_with fail
      refine bodyPost_end (results_none rfl _ _ _) rfl ?_
      have g1 := HF.out.setSelf 7 (.bool false) { wkK s fs k with ended := false } rfl rfl rfl rfl rfl
      have g2 := g1.1.setSelf 6 (.int .i64 (-1)) { wkK s fs k with ended := false, cut := false, left := 0 } rfl rfl rfl rfl rfl
      refine ⟨rfl, ?_, HB.out.trans (g1.2.trans g2.2)⟩
      refine g2.1.all rfl (fun i hi => ?_) (fun i hi => ?_) rfl rfl
      · have hi' : i < s.n := hi
        show (if i < k then wakeTx s fs i else s.tx i) = wakeTx s fs i
        rw [if_pos (by rw [HKN.out]; exact hi')]
      · have hi' : i < s.n := hi
        show (if i < k then none else s.pd i).getD _ = _
        rw [if_pos (by rw [HKN.out]; exact hi')]
        rfl
end Go.Proofs.Ytkpfnepbnaekoaa.Rd
