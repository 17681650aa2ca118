/- A range of the finite check: A. No program is named here. -/
import Derived.Test.YtcglffigbdglpaaDoorPsp
namespace Go.Proofs.YtcglffigbdglpaaDoor
open Dia

def SA : List Nat := [1, 2, 3, 4]
theorem SA_ok : ListOk 4 SA := listB_ok (by decide +kernel)
theorem SA_cnt : Nat.ble 11 (cntK SA SA) = true := by decide +kernel
def RA : List Nat := [2, 3, 5, 7, 11, 13, 17, 19, 23, 29, 31]
theorem chkA0 : bin (two (tst RA)) 7 6 = true := by decide +kernel
theorem goodA {q : Nat} (h1 : 36 ≤ q) (h2 : q < 804) (h6 : q % 6 = 1 ∨ q % 6 = 5) (hg : Nat.gcd q WG = 1) : Good RA q :=
  tst_ok (range_ok chkA0 (by omega) (by omega) h6) hg
theorem covA : ∀ D, D < 37 → 2 ≤ D → (∃ r ∈ RA, 1 ≤ r ∧ r ∣ D) ∨ D * NN < 37 * 36 := by decide
theorem fullA {n q : Nat} (hn : Psp n) (h : Pdv n q) (h1 : 36 ≤ q) (h2 : q < 804) : q - 1 ∣ n - 1 := by
  have h41 := h.ge hn
  have hc := cnt_le SA_cnt
  have hq : 37 ≤ q := by have := prime_six h.p h41; omega
  refine h.full hn SA_ok (by omega) (by omega) (goodA h1 h2 (prime_six h.p h41) (prime_gcd h.p h41)) (hi := 36) (by omega) (by omega) fun D d2 dh => ?_
  rcases covA D (by omega) d2 with hr | hl
  · exact Or.inl hr
  · refine Or.inr (Nat.lt_of_lt_of_le hl ?_)
    exact Nat.mul_le_mul (by omega) (by omega)
theorem nonresA {n q : Nat} (hn : Psp n) (h : Pdv n q) (h1 : 36 ≤ q) (h2 : q < 804) : ∃ b ∈ bN, b ^ ((q - 1) / 2) % q ≠ 1 := by
  have h41 := h.ge hn
  exact h.nonres hn (goodA h1 h2 (prime_six h.p h41) (prime_gcd h.p h41)) (by decide) (fullA hn h h1 h2)
end Go.Proofs.YtcglffigbdglpaaDoor
