/- A range of the finite check: D. No program is named here. -/
import Derived.Test.YtcglffigbdglpaaDoorPsp
namespace Go.Proofs.YtcglffigbdglpaaDoor
open Dia

def SD : List Nat := [1, 2, 3, 4, 5, 6, 7, 8, 9, 10, 11, 12, 13, 14, 15, 16, 17, 18, 19, 20, 21, 22, 23, 24, 25, 26, 27, 28, 29, 30, 31, 32, 33, 34, 35, 36, 37, 38, 39, 40, 42, 44, 
  45, 46, 48, 49, 50, 51, 52, 54, 55, 56, 57, 58, 60, 62, 63, 64, 65, 66, 68, 69, 70, 72, 74, 75, 76, 77, 78, 80, 81, 84, 85, 87, 88, 90, 91, 92, 93, 95, 96, 98, 
  99, 100, 102, 104, 105, 108, 110, 111, 112, 114, 115, 116, 117, 119, 120, 121, 124, 125, 126, 128, 130, 132, 133, 135, 136, 138, 140, 143, 144, 145, 147, 148, 
  150, 152, 153, 154, 155, 156, 160, 161, 162, 165, 168, 169, 170, 171, 174, 175, 176, 180, 182, 184, 185, 186, 187, 189, 190, 192, 195, 196, 198, 200, 203, 204, 
  207, 208, 209, 210, 216, 217, 220, 221, 222, 224, 225, 228, 230, 231, 232, 234]
theorem SD_ok : ListOk 235 SD := listB_ok (by decide +kernel)
theorem SD_cnt : Nat.ble 11177 (cntK SD SD) = true := by decide +kernel
def RD : List Nat := [2, 3, 5, 7, 11, 13, 17, 19, 23]
theorem chkD0 : bin (two (tst RD)) 14 18566 = true := by decide +kernel
theorem chkD1 : bin (two (tst RD)) 14 34950 = true := by decide +kernel
theorem chkD2 : bin (two (tst RD)) 14 51334 = true := by decide +kernel
theorem chkD3 : bin (two (tst RD)) 14 67718 = true := by decide +kernel
theorem goodD {q : Nat} (h1 : 111396 ≤ q) (h2 : q < 504612) (h6 : q % 6 = 1 ∨ q % 6 = 5) (hg : Nat.gcd q WG = 1) : Good RD q := by
  by_cases c1 : q < 209700
  · exact tst_ok (range_ok chkD0 (by omega) (by omega) h6) hg
  by_cases c2 : q < 308004
  · exact tst_ok (range_ok chkD1 (by omega) (by omega) h6) hg
  by_cases c3 : q < 406308
  · exact tst_ok (range_ok chkD2 (by omega) (by omega) h6) hg
  · exact tst_ok (range_ok chkD3 (by omega) (by omega) h6) hg
theorem covD : ∀ D, D < 23 → 2 ≤ D → (∃ r ∈ RD, 1 ≤ r ∧ r ∣ D) ∨ D * NN < 111397 * 111396 := by decide
theorem fullD {n q : Nat} (hn : Psp n) (h : Pdv n q) (h1 : 111396 ≤ q) (h2 : q < 504612) : q - 1 ∣ n - 1 := by
  have h41 := h.ge hn
  have hc := cnt_le SD_cnt
  have hq : 111397 ≤ q := by have := prime_six h.p h41; omega
  refine h.full hn SD_ok (by omega) (by omega) (goodD h1 h2 (prime_six h.p h41) (prime_gcd h.p h41)) (hi := 22) (by omega) (by omega) fun D d2 dh => ?_
  rcases covD D (by omega) d2 with hr | hl
  · exact Or.inl hr
  · refine Or.inr (Nat.lt_of_lt_of_le hl ?_)
    exact Nat.mul_le_mul (by omega) (by omega)
theorem nonresD {n q : Nat} (hn : Psp n) (h : Pdv n q) (h1 : 111396 ≤ q) (h2 : q < 504612) : ∃ b ∈ bN, b ^ ((q - 1) / 2) % q ≠ 1 := by
  have h41 := h.ge hn
  exact h.nonres hn (goodD h1 h2 (prime_six h.p h41) (prime_gcd h.p h41)) (by decide) (fullD hn h h1 h2)
end Go.Proofs.YtcglffigbdglpaaDoor
