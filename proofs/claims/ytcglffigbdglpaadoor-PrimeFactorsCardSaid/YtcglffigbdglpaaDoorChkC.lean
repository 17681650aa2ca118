/- A range of the finite check: C. No program is named here. -/
import Derived.Test.YtcglffigbdglpaaDoorPsp
namespace Go.Proofs.YtcglffigbdglpaaDoor
open Dia

def SC : List Nat := [1, 2, 3, 4, 5, 6, 7, 8, 9, 10, 11, 12, 13, 14, 15, 16, 17, 18, 19, 20, 21, 22, 23, 24, 25, 26, 27, 28, 29, 30, 31, 32, 33, 34, 35, 36, 37, 38, 39, 40, 42, 44, 
  45, 46, 48, 49, 50, 51, 52, 54, 55, 56, 57, 58, 60, 62, 63, 64, 65, 66, 68, 69, 70, 72, 74, 75, 76, 77, 78, 80]
theorem SC_ok : ListOk 80 SC := listB_ok (by decide +kernel)
theorem SC_cnt : Nat.ble 2441 (cntK SC SC) = true := by decide +kernel
def RC : List Nat := [2, 3, 5, 7, 11, 13, 17, 19, 23]
theorem chkC0 : bin (two (tst RC)) 12 2182 = true := by decide +kernel
theorem chkC1 : bin (two (tst RC)) 12 6278 = true := by decide +kernel
theorem chkC2 : bin (two (tst RC)) 12 10374 = true := by decide +kernel
theorem chkC3 : bin (two (tst RC)) 12 14470 = true := by decide +kernel
theorem goodC {q : Nat} (h1 : 13092 ≤ q) (h2 : q < 111396) (h6 : q % 6 = 1 ∨ q % 6 = 5) (hg : Nat.gcd q WG = 1) : Good RC q := by
  by_cases c1 : q < 37668
  · exact tst_ok (range_ok chkC0 (by omega) (by omega) h6) hg
  by_cases c2 : q < 62244
  · exact tst_ok (range_ok chkC1 (by omega) (by omega) h6) hg
  by_cases c3 : q < 86820
  · exact tst_ok (range_ok chkC2 (by omega) (by omega) h6) hg
  · exact tst_ok (range_ok chkC3 (by omega) (by omega) h6) hg
theorem covC : ∀ D, D < 23 → 2 ≤ D → (∃ r ∈ RC, 1 ≤ r ∧ r ∣ D) ∨ D * NN < 13093 * 13092 := by decide
theorem fullC {n q : Nat} (hn : Psp n) (h : Pdv n q) (h1 : 13092 ≤ q) (h2 : q < 111396) : q - 1 ∣ n - 1 := by
  have h41 := h.ge hn
  have hc := cnt_le SC_cnt
  have hq : 13093 ≤ q := by have := prime_six h.p h41; omega
  refine h.full hn SC_ok (by omega) (by omega) (goodC h1 h2 (prime_six h.p h41) (prime_gcd h.p h41)) (hi := 22) (by omega) (by omega) fun D d2 dh => ?_
  rcases covC D (by omega) d2 with hr | hl
  · exact Or.inl hr
  · refine Or.inr (Nat.lt_of_lt_of_le hl ?_)
    exact Nat.mul_le_mul (by omega) (by omega)
theorem nonresC {n q : Nat} (hn : Psp n) (h : Pdv n q) (h1 : 13092 ≤ q) (h2 : q < 111396) : ∃ b ∈ bN, b ^ ((q - 1) / 2) % q ≠ 1 := by
  have h41 := h.ge hn
  exact h.nonres hn (goodC h1 h2 (prime_six h.p h41) (prime_gcd h.p h41)) (by decide) (fullC hn h h1 h2)
end Go.Proofs.YtcglffigbdglpaaDoor
