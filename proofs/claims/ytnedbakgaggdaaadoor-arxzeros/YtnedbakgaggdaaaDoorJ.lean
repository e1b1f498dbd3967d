/- The document's example: a block's first bytes, reckoned. -/
import Derived.Test.YtnedbakgaggdaaaDoorI
namespace Go.Proofs.YtnedbakgaggdaaaDoor
open Go.RowKit
theorem upd_congr {f g : Nat → Int} (h : ∀ i, i < 16 → f i = g i) (k : Nat) (x : Int) : ∀ i, i < 16 → upd f k x i = upd g k x i := fun i hi => by
  unfold upd; rw [h i hi]
theorem qt_congr {f g : Nat → Int} (h : ∀ i, i < 16 → f i = g i) (a b c d : Nat) (ha : a < 16) (hb : b < 16) (hc : c < 16) (hd : d < 16) : ∀ i, i < 16 → qt f a b c d i = qt g a b c d i := by
  unfold qt
  rw [h a ha, h b hb, h c hc, h d hd]
  exact upd_congr (upd_congr (upd_congr (upd_congr h _ _) _ _) _ _) _ _
theorem rnd_congr {f g : Nat → Int} (h : ∀ i, i < 16 → f i = g i) : ∀ i, i < 16 → rnd f i = rnd g i := by
  unfold rnd
  exact (qt_congr (qt_congr (qt_congr (qt_congr (qt_congr (qt_congr (qt_congr (qt_congr h 0 4 8 12 (by decide) (by decide) (by decide) (by decide)) 1 5 9 13 (by decide) (by decide) (by decide) (by decide)) 2 6 10 14 (by decide) (by decide) (by decide) (by decide)) 3 7 11 15 (by decide) (by decide) (by decide) (by decide)) 0 5 10 15 (by decide) (by decide) (by decide) (by decide)) 1 6 11 12 (by decide) (by decide) (by decide) (by decide)) 2 7 8 13 (by decide) (by decide) (by decide) (by decide)) 3 4 9 14 (by decide) (by decide) (by decide) (by decide))
theorem rnds_step {f : Nat → Int} {k : Nat} {g l : Nat → Int} (h : ∀ i, i < 16 → rnds f k i = g i) (hl : ∀ i, i < 16 → rnd g i = l i) : ∀ i, i < 16 → rnds f (k + 1) i = l i := fun i hi => (rnd_congr h i hi).trans (hl i hi)
def K32 : ByteArray := strOfNums (upto (fun i => (i : Int)) 32)
def N12 : ByteArray := ⟨#[0, 0, 0, 9, 0, 0, 0, 74, 0, 0, 0, 0]⟩
def L0 : List Int := [1634760805, 857760878, 2036477234, 1797285236, 50462976, 117835012, 185207048, 252579084, 319951120, 387323156, 454695192, 522067228, 1, 150994944, 1241513984, 0]
def L1 : List Int := [3444762903, 2242577332, 3007673237, 4184729565, 3300379938, 1546524794, 3378426977, 829194266, 2079840064, 2128467524, 4053908981, 1980909258, 1796036771, 1738032922, 3610767719, 4050880653]
def L2 : List Int := [3474617732, 76097516, 1409621978, 3259301672, 2417831744, 2037692444, 932040628, 3444047118, 766489110, 667458774, 3443301024, 2046593479, 279900557, 371296101, 1761044229, 81194530]
def L3 : List Int := [60899378, 1722898727, 2641062722, 3092005129, 2803120864, 2694525917, 2782572424, 802757235, 3373034264, 1512055827, 3255697846, 1926065012, 3124090743, 3009475007, 2172137819, 751901466]
def L4 : List Int := [2586654089, 186907726, 1085225835, 3471475012, 169607110, 1582928887, 2567226087, 221464344, 3832308564, 3377476137, 83817898, 4170399602, 646435958, 1424380465, 898957253, 725332682]
def L5 : List Int := [3308460229, 3392298390, 2122125771, 872735434, 651677555, 1619579769, 3237013949, 3809529273, 2922162395, 1123449970, 1902549706, 2539394845, 2657010216, 2105911795, 538773334, 1677355347]
def L6 : List Int := [77796122, 1712808713, 68532913, 1639481506, 919373511, 3213509733, 4152219424, 4228635792, 131152586, 3943426479, 1633260689, 2441417436, 867592301, 2036123249, 3221526898, 2695371742]
def L7 : List Int := [2607871263, 2124983313, 568675753, 3392748335, 2477819526, 1783386286, 421603930, 2600675672, 3627619934, 1275519626, 3556632990, 648855869, 2785670485, 740582729, 2501187667, 746879501]
def L8 : List Int := [3395061213, 2477062414, 3656441688, 652051165, 2552587256, 1898621439, 664429032, 2534372029, 472224538, 1367390992, 2006722535, 1409777160, 2847363579, 942619874, 2377217405, 3426224139]
def L9 : List Int := [3065544166, 2583781704, 2475005973, 1226172108, 3694379298, 2564919203, 1610344700, 4145367947, 683801779, 3300102045, 2212689367, 2099558795, 554142498, 2979260323, 3002373001, 1826512934]
def L10 : List Int := [2205644971, 3795375971, 2793071134, 1498463023, 3304247495, 4234328879, 2409634044, 1063176119, 861041090, 4069820915, 3938298108, 2196008637, 3516666548, 2957907678, 2659438795, 1312575650]
theorem sh0 : ∀ i, i < 16 → stt K32 1 N12 i = lf L0 i := by decide +kernel
theorem st0 : ∀ i, i < 16 → rnd (lf L0) i = lf L1 i := by decide +kernel
theorem st1 : ∀ i, i < 16 → rnd (lf L1) i = lf L2 i := by decide +kernel
theorem st2 : ∀ i, i < 16 → rnd (lf L2) i = lf L3 i := by decide +kernel
theorem st3 : ∀ i, i < 16 → rnd (lf L3) i = lf L4 i := by decide +kernel
theorem st4 : ∀ i, i < 16 → rnd (lf L4) i = lf L5 i := by decide +kernel
theorem st5 : ∀ i, i < 16 → rnd (lf L5) i = lf L6 i := by decide +kernel
theorem st6 : ∀ i, i < 16 → rnd (lf L6) i = lf L7 i := by decide +kernel
theorem st7 : ∀ i, i < 16 → rnd (lf L7) i = lf L8 i := by decide +kernel
theorem st8 : ∀ i, i < 16 → rnd (lf L8) i = lf L9 i := by decide +kernel
theorem st9 : ∀ i, i < 16 → rnd (lf L9) i = lf L10 i := by decide +kernel
theorem sh10 : ∀ i, i < 16 → rnds (stt K32 1 N12) 10 i = lf L10 i := (rnds_step (rnds_step (rnds_step (rnds_step (rnds_step (rnds_step (rnds_step (rnds_step (rnds_step (rnds_step sh0 st0) st1) st2) st3) st4) st5) st6) st7) st8) st9)
theorem known0 : blk (stt K32 1 N12) 0 = 3840405776 := by
  unfold blk; rw [sh10 0 (by decide), sh0 0 (by decide)]; decide +kernel
theorem known1 : blk (stt K32 1 N12) 1 = 358169553 := by
  unfold blk; rw [sh10 1 (by decide), sh0 1 (by decide)]; decide +kernel
end Go.Proofs.YtnedbakgaggdaaaDoor
