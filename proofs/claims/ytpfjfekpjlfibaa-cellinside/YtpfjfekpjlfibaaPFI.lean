/- CellInside: a box that has all points of a cell has each, and touches it; one that does not touch it has none. -/
import Derived.Test.YtpfjfekpjlfibaaPFA
namespace Go.Proofs.Ytpfjfekpjlfibaa.Rc
open Go.RowKit Go.Lib
set_option maxHeartbeats 4000000 in
set_option maxRecDepth 100000 in
theorem inside_walk (X Y : Nat) (L : Int) (a b c d x y : Nat) (hX : X < 4294967296) (hY : Y < 4294967296) (hx : x < 4294967296) (hy : y < 4294967296) (w : World) :
    Calls Try.prog 10 #[cv X Y L, bv a b c d, .int .u32 (x : Int), .int .u32 (y : Int)] w fun e w' => e = .returned (.bool true) ∧ Below w.heap.size w w' := by
  have H1 : Hid _ := within_any X Y L a b c d hX hY
  have H2 : Hid _ := touches_any X Y L a b c d hX hY
  have H3 : Hid _ := has_any X Y L x y hX hY hx hy
  have H4 : Hid _ := in_any a b c d x y
  have i1 : withinS X Y L a b c d = true → touchS X Y L a b c d = true := within_touch
  have i2 : withinS X Y L a b c d = true → hasS X Y L x y = true → inS a b c d x y = true := within_in
  have i3 : inS a b c d x y = true → hasS X Y L x y = true → touchS X Y L a b c d = true := touch_of
  generalize withinS X Y L a b c d = rW at *
  generalize touchS X Y L a b c d = rT at *
  generalize hasS X Y L x y = rH at *
  generalize inS a b c d x y = rI at *
  clear hX hY hx hy
  have HN : Hid _ := cb_new X Y L a b c d w
  cases rW
  · cases rT
    · cases rH
      · clear i1 i2 i3
        go_enter Try.func10, Try.ntmps10
        go_wp2_with fail
        refine (shown_any _).mono ?_
        rintro e w1 ⟨rfl, b1⟩
        have HB : Hid (CB w X Y L a b c d w1) := HN.out.next b1
        obtain ⟨e0, e1, e2⟩ := HB.out.cel
        obtain ⟨f0, f1, f2, f3⟩ := HB.out.box
        clear b1
        go_wp2_with fail
        refine (H1.out _).mono ?_
        rintro e w2 ⟨rfl, b2⟩
        replace HB : Hid (CB w X Y L a b c d w2) := HB.out.next b2
        clear b2 e0 e1 e2 f0 f1 f2 f3
        obtain ⟨e0, e1, e2⟩ := HB.out.cel
        obtain ⟨f0, f1, f2, f3⟩ := HB.out.box
        go_wp2_with fail
        refine (H2.out _).mono ?_
        rintro e w3 ⟨rfl, b3⟩
        replace HB : Hid (CB w X Y L a b c d w3) := HB.out.next b3
        clear b3 e0 e1 e2 f0 f1 f2 f3
        obtain ⟨e0, e1, e2⟩ := HB.out.cel
        obtain ⟨f0, f1, f2, f3⟩ := HB.out.box
        go_wp2_with fail
        refine (H3.out _).mono ?_
        rintro e w4 ⟨rfl, b4⟩
        replace HB : Hid (CB w X Y L a b c d w4) := HB.out.next b4
        clear b4 e0 e1 e2 f0 f1 f2 f3
        obtain ⟨e0, e1, e2⟩ := HB.out.cel
        obtain ⟨f0, f1, f2, f3⟩ := HB.out.box
        go_wp2_with fail
        go_ret
        exact ⟨rfl, HB.out.bel⟩
      · obtain rfl : rI = false := by cases rI; rfl; exact absurd (i3 rfl rfl) (by decide)
        clear i1 i2 i3
        go_enter Try.func10, Try.ntmps10
        go_wp2_with fail
        refine (shown_any _).mono ?_
        rintro e w1 ⟨rfl, b1⟩
        have HB : Hid (CB w X Y L a b c d w1) := HN.out.next b1
        obtain ⟨e0, e1, e2⟩ := HB.out.cel
        obtain ⟨f0, f1, f2, f3⟩ := HB.out.box
        clear b1
        go_wp2_with fail
        refine (H1.out _).mono ?_
        rintro e w2 ⟨rfl, b2⟩
        replace HB : Hid (CB w X Y L a b c d w2) := HB.out.next b2
        clear b2 e0 e1 e2 f0 f1 f2 f3
        obtain ⟨e0, e1, e2⟩ := HB.out.cel
        obtain ⟨f0, f1, f2, f3⟩ := HB.out.box
        go_wp2_with fail
        refine (H2.out _).mono ?_
        rintro e w3 ⟨rfl, b3⟩
        replace HB : Hid (CB w X Y L a b c d w3) := HB.out.next b3
        clear b3 e0 e1 e2 f0 f1 f2 f3
        obtain ⟨e0, e1, e2⟩ := HB.out.cel
        obtain ⟨f0, f1, f2, f3⟩ := HB.out.box
        go_wp2_with fail
        refine (H3.out _).mono ?_
        rintro e w4 ⟨rfl, b4⟩
        replace HB : Hid (CB w X Y L a b c d w4) := HB.out.next b4
        clear b4 e0 e1 e2 f0 f1 f2 f3
        obtain ⟨e0, e1, e2⟩ := HB.out.cel
        obtain ⟨f0, f1, f2, f3⟩ := HB.out.box
        go_wp2_with fail
        refine (H4.out _).mono ?_
        rintro e w5 ⟨rfl, b5⟩
        replace HB : Hid (CB w X Y L a b c d w5) := HB.out.next b5
        clear b5 e0 e1 e2 f0 f1 f2 f3
        obtain ⟨e0, e1, e2⟩ := HB.out.cel
        obtain ⟨f0, f1, f2, f3⟩ := HB.out.box
        go_wp2_with fail
        go_ret
        exact ⟨rfl, HB.out.bel⟩
    · clear i1 i2 i3
      go_enter Try.func10, Try.ntmps10
      go_wp2_with fail
      refine (shown_any _).mono ?_
      rintro e w1 ⟨rfl, b1⟩
      have HB : Hid (CB w X Y L a b c d w1) := HN.out.next b1
      obtain ⟨e0, e1, e2⟩ := HB.out.cel
      obtain ⟨f0, f1, f2, f3⟩ := HB.out.box
      clear b1
      go_wp2_with fail
      refine (H1.out _).mono ?_
      rintro e w2 ⟨rfl, b2⟩
      replace HB : Hid (CB w X Y L a b c d w2) := HB.out.next b2
      clear b2 e0 e1 e2 f0 f1 f2 f3
      obtain ⟨e0, e1, e2⟩ := HB.out.cel
      obtain ⟨f0, f1, f2, f3⟩ := HB.out.box
      go_wp2_with fail
      refine (H2.out _).mono ?_
      rintro e w3 ⟨rfl, b3⟩
      replace HB : Hid (CB w X Y L a b c d w3) := HB.out.next b3
      clear b3 e0 e1 e2 f0 f1 f2 f3
      obtain ⟨e0, e1, e2⟩ := HB.out.cel
      obtain ⟨f0, f1, f2, f3⟩ := HB.out.box
      go_wp2_with fail
      go_ret
      exact ⟨rfl, HB.out.bel⟩
  · obtain rfl : rT = true := i1 rfl
    cases rH
    · clear i1 i2 i3
      go_enter Try.func10, Try.ntmps10
      go_wp2_with fail
      refine (shown_any _).mono ?_
      rintro e w1 ⟨rfl, b1⟩
      have HB : Hid (CB w X Y L a b c d w1) := HN.out.next b1
      obtain ⟨e0, e1, e2⟩ := HB.out.cel
      obtain ⟨f0, f1, f2, f3⟩ := HB.out.box
      clear b1
      go_wp2_with fail
      refine (H1.out _).mono ?_
      rintro e w2 ⟨rfl, b2⟩
      replace HB : Hid (CB w X Y L a b c d w2) := HB.out.next b2
      clear b2 e0 e1 e2 f0 f1 f2 f3
      obtain ⟨e0, e1, e2⟩ := HB.out.cel
      obtain ⟨f0, f1, f2, f3⟩ := HB.out.box
      go_wp2_with fail
      refine (H2.out _).mono ?_
      rintro e w3 ⟨rfl, b3⟩
      replace HB : Hid (CB w X Y L a b c d w3) := HB.out.next b3
      clear b3 e0 e1 e2 f0 f1 f2 f3
      obtain ⟨e0, e1, e2⟩ := HB.out.cel
      obtain ⟨f0, f1, f2, f3⟩ := HB.out.box
      go_wp2_with fail
      refine (H3.out _).mono ?_
      rintro e w4 ⟨rfl, b4⟩
      replace HB : Hid (CB w X Y L a b c d w4) := HB.out.next b4
      clear b4 e0 e1 e2 f0 f1 f2 f3
      obtain ⟨e0, e1, e2⟩ := HB.out.cel
      obtain ⟨f0, f1, f2, f3⟩ := HB.out.box
      go_wp2_with fail
      refine (H2.out _).mono ?_
      rintro e w5 ⟨rfl, b5⟩
      replace HB : Hid (CB w X Y L a b c d w5) := HB.out.next b5
      clear b5 e0 e1 e2 f0 f1 f2 f3
      obtain ⟨e0, e1, e2⟩ := HB.out.cel
      obtain ⟨f0, f1, f2, f3⟩ := HB.out.box
      go_wp2_with fail
      go_ret
      exact ⟨rfl, HB.out.bel⟩
    · obtain rfl : rI = true := i2 rfl rfl
      clear i1 i2 i3
      go_enter Try.func10, Try.ntmps10
      go_wp2_with fail
      refine (shown_any _).mono ?_
      rintro e w1 ⟨rfl, b1⟩
      have HB : Hid (CB w X Y L a b c d w1) := HN.out.next b1
      obtain ⟨e0, e1, e2⟩ := HB.out.cel
      obtain ⟨f0, f1, f2, f3⟩ := HB.out.box
      clear b1
      go_wp2_with fail
      refine (H1.out _).mono ?_
      rintro e w2 ⟨rfl, b2⟩
      replace HB : Hid (CB w X Y L a b c d w2) := HB.out.next b2
      clear b2 e0 e1 e2 f0 f1 f2 f3
      obtain ⟨e0, e1, e2⟩ := HB.out.cel
      obtain ⟨f0, f1, f2, f3⟩ := HB.out.box
      go_wp2_with fail
      refine (H2.out _).mono ?_
      rintro e w3 ⟨rfl, b3⟩
      replace HB : Hid (CB w X Y L a b c d w3) := HB.out.next b3
      clear b3 e0 e1 e2 f0 f1 f2 f3
      obtain ⟨e0, e1, e2⟩ := HB.out.cel
      obtain ⟨f0, f1, f2, f3⟩ := HB.out.box
      go_wp2_with fail
      refine (H3.out _).mono ?_
      rintro e w4 ⟨rfl, b4⟩
      replace HB : Hid (CB w X Y L a b c d w4) := HB.out.next b4
      clear b4 e0 e1 e2 f0 f1 f2 f3
      obtain ⟨e0, e1, e2⟩ := HB.out.cel
      obtain ⟨f0, f1, f2, f3⟩ := HB.out.box
      go_wp2_with fail
      refine (H4.out _).mono ?_
      rintro e w5 ⟨rfl, b5⟩
      replace HB : Hid (CB w X Y L a b c d w5) := HB.out.next b5
      clear b5 e0 e1 e2 f0 f1 f2 f3
      obtain ⟨e0, e1, e2⟩ := HB.out.cel
      obtain ⟨f0, f1, f2, f3⟩ := HB.out.box
      go_wp2_with fail
      refine (H2.out _).mono ?_
      rintro e w6 ⟨rfl, b6⟩
      replace HB : Hid (CB w X Y L a b c d w6) := HB.out.next b6
      clear b6 e0 e1 e2 f0 f1 f2 f3
      obtain ⟨e0, e1, e2⟩ := HB.out.cel
      obtain ⟨f0, f1, f2, f3⟩ := HB.out.box
      go_wp2_with fail
      go_ret
      exact ⟨rfl, HB.out.bel⟩
end Go.Proofs.Ytpfjfekpjlfibaa.Rc
