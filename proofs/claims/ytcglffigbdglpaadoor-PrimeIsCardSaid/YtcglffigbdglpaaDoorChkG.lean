/- A range of the finite check: G. No program is named here. -/
import Derived.Test.YtcglffigbdglpaaDoorPsp
namespace Go.Proofs.YtcglffigbdglpaaDoor
open Dia

def SG : List Nat := [1, 2, 3, 4, 5, 6, 7, 8, 9, 10, 11, 12, 13, 14, 15, 16, 17, 18, 19, 20, 21, 22, 23, 24, 25, 26, 27, 28, 29, 30, 31, 32, 33, 34, 35, 36, 37, 38, 39, 40, 42, 44, 
  45, 46, 48, 49, 50, 51, 52, 54, 55, 56, 57, 58, 60, 62, 63, 64, 65, 66, 68, 69, 70, 72, 74, 75, 76, 77, 78, 80, 81, 84, 85, 87, 88, 90, 91, 92, 93, 95, 96, 98, 
  99, 100, 102, 104, 105, 108, 110, 111, 112, 114, 115, 116, 117, 119, 120, 121, 124, 125, 126, 128, 130, 132, 133, 135, 136, 138, 140, 143, 144, 145, 147, 148, 
  150, 152, 153, 154, 155, 156, 160, 161, 162, 165, 168, 169, 170, 171, 174, 175, 176, 180, 182, 184, 185, 186, 187, 189, 190, 192, 195, 196, 198, 200, 203, 204, 
  207, 208, 209, 210, 216, 217, 220, 221, 222, 224, 225, 228, 230, 231, 232, 234, 238, 240, 242, 243, 245, 247, 248, 250, 252, 253, 255, 256, 259, 260, 261, 264, 
  266, 270, 272, 273, 275, 276, 279, 280, 285, 286, 288, 289, 290, 294, 296, 297, 299, 300, 304, 306, 308, 310, 312, 315, 319, 320, 322, 323, 324, 325, 330, 333, 
  336, 338, 340, 341, 342, 343, 345, 348, 350, 351, 352, 357, 360, 361, 363, 364, 368, 370, 372, 374, 375, 377, 378, 380, 384, 385, 390, 391, 392, 396, 399, 400, 
  403, 405, 406, 407, 408, 414, 416, 418, 420, 425, 429, 432, 434, 435, 437, 440, 441, 442, 444, 448, 450, 455, 456, 459, 460, 462, 464, 465, 468, 475, 476, 480, 
  481, 483, 484, 486, 490, 493, 494, 495, 496, 500, 504, 506, 507, 510, 512, 513, 518, 520, 522, 525, 527, 528, 529, 532, 539, 540, 544, 546, 550, 551, 552, 555, 
  558, 560, 561, 567, 570, 572, 575, 576, 578, 580, 585, 588, 589, 592, 594, 595, 598, 600, 605, 608, 609, 612, 616, 620, 621, 624, 625, 627, 629, 630, 637, 638, 
  640, 644, 646, 648, 650, 651, 660, 663, 665, 666, 667, 672, 675, 676, 680, 682, 684, 686, 690, 693, 696, 700, 702, 703, 704, 713, 714, 715, 720, 722, 725, 726, 
  728, 729, 735, 736, 740, 741, 744, 748, 750, 754, 756, 759, 760, 765, 768, 770, 775, 777, 780, 782, 783, 784, 792, 798, 800, 805, 806, 810, 812, 814, 816, 819, 
  825, 828, 832, 833, 836, 837, 840, 841, 845, 847, 850, 851, 855, 858, 864, 867, 868, 870, 874, 875, 880, 882, 884, 888, 891, 896, 897, 899, 900, 910, 912, 918, 
  920, 924, 925, 928, 930, 931, 935, 936, 945, 950, 952, 957, 960, 961, 962, 966, 968, 969, 972, 975, 980, 986, 988, 990, 992, 999, 1000]
theorem SG_ok : ListOk 1000 SG := listB_ok (by decide +kernel)
theorem SG_cnt : Nat.ble 74891 (cntK SG SG) = true := by decide +kernel
def RG : List Nat := [4, 6, 9, 5, 7, 11, 13, 17, 19]
theorem chkG0 : bin (two (tst RG)) 15 346246 = true := by decide +kernel
theorem chkG1 : bin (two (tst RG)) 15 379014 = true := by decide +kernel
theorem chkG2 : bin (two (tst RG)) 15 411782 = true := by decide +kernel
theorem chkG3 : bin (two (tst RG)) 15 444550 = true := by decide +kernel
theorem goodG {q : Nat} (h1 : 2077476 ≤ q) (h2 : q < 2863908) (h6 : q % 6 = 1 ∨ q % 6 = 5) (hg : Nat.gcd q WG = 1) : Good RG q := by
  by_cases c1 : q < 2274084
  · exact tst_ok (range_ok chkG0 (by omega) (by omega) h6) hg
  by_cases c2 : q < 2470692
  · exact tst_ok (range_ok chkG1 (by omega) (by omega) h6) hg
  by_cases c3 : q < 2667300
  · exact tst_ok (range_ok chkG2 (by omega) (by omega) h6) hg
  · exact tst_ok (range_ok chkG3 (by omega) (by omega) h6) hg
theorem covG : ∀ D, D < 20 → 2 ≤ D → (∃ r ∈ RG, 1 ≤ r ∧ r ∣ D) ∨ D * NN < 2077477 * 2077476 := by decide
theorem fullG {n q : Nat} (hn : Psp n) (h : Pdv n q) (h1 : 2077476 ≤ q) (h2 : q < 2863908) : q - 1 ∣ n - 1 := by
  have h41 := h.ge hn
  have hc := cnt_le SG_cnt
  have hq : 2077477 ≤ q := by have := prime_six h.p h41; omega
  refine h.full hn SG_ok (by omega) (by omega) (goodG h1 h2 (prime_six h.p h41) (prime_gcd h.p h41)) (hi := 19) (by omega) (by omega) fun D d2 dh => ?_
  rcases covG D (by omega) d2 with hr | hl
  · exact Or.inl hr
  · refine Or.inr (Nat.lt_of_lt_of_le hl ?_)
    exact Nat.mul_le_mul (by omega) (by omega)
end Go.Proofs.YtcglffigbdglpaaDoor
