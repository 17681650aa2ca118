/- A range of the finite check: B. No program is named here. -/
import Derived.Test.YtcglffigbdglpaaDoorPsp
namespace Go.Proofs.YtcglffigbdglpaaDoor
open Dia

def SB : List Nat := [1, 2, 3, 4, 5, 6, 7, 8, 9, 10, 11, 12, 13, 14, 15, 16, 17, 18, 19, 20]
theorem SB_ok : ListOk 20 SB := listB_ok (by decide +kernel)
theorem SB_cnt : Nat.ble 255 (cntK SB SB) = true := by decide +kernel
def RB : List Nat := [2, 3, 5, 7, 11, 13, 17, 19, 23]
theorem chkB0 : bin (two (tst RB)) 11 134 = true := by decide +kernel
theorem goodB {q : Nat} (h1 : 804 ≤ q) (h2 : q < 13092) (h6 : q % 6 = 1 ∨ q % 6 = 5) (hg : Nat.gcd q WG = 1) : Good RB q :=
  tst_ok (range_ok chkB0 (by omega) (by omega) h6) hg
theorem covB : ∀ D, D < 26 → 2 ≤ D → (∃ r ∈ RB, 1 ≤ r ∧ r ∣ D) ∨ D * NN < 805 * 804 := by decide
theorem fullQB {n q : Nat} (hn : Psp n) (h : Pdv n q) (h1 : 804 ≤ q) (h2 : q < 13092) : q - 1 ∣ n - 1 := by
  have h41 := h.ge hn
  have hc := cnt_le SB_cnt
  have hq : 805 ≤ q := by have := prime_six h.p h41; omega
  refine h.full hn SB_ok (by omega) (by omega) (goodB h1 h2 (prime_six h.p h41) (prime_gcd h.p h41)) (hi := 25) (by omega) (by omega) fun D d2 dh => ?_
  rcases covB D (by omega) d2 with hr | hl
  · exact Or.inl hr
  · refine Or.inr (Nat.lt_of_lt_of_le hl ?_)
    exact Nat.mul_le_mul (by omega) (by omega)
theorem nonresB {n q : Nat} (hn : Psp n) (h : Pdv n q) (h1 : 804 ≤ q) (h2 : q < 13092) : ∃ b ∈ bN, b ^ ((q - 1) / 2) % q ≠ 1 := by
  have h41 := h.ge hn
  exact h.nonres hn (goodB h1 h2 (prime_six h.p h41) (prime_gcd h.p h41)) (by decide) (fullQB hn h h1 h2)
end Go.Proofs.YtcglffigbdglpaaDoor
