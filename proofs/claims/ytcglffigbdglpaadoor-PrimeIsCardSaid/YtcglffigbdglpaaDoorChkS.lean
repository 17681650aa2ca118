/- No prime up to 2^20 has a square that divides; the finite check. No program is named here. -/
import Derived.Test.YtcglffigbdglpaaDoorPsp
namespace Go.Proofs.YtcglffigbdglpaaDoor
open Dia

theorem chkS0 : bin (two sq) 15 6 = true := by decide +kernel
theorem chkS1 : bin (two sq) 15 32774 = true := by decide +kernel
theorem chkS2 : bin (two sq) 15 65542 = true := by decide +kernel
theorem chkS3 : bin (two sq) 15 98310 = true := by decide +kernel
theorem chkS4 : bin (two sq) 15 131078 = true := by decide +kernel
theorem chkS5 : bin (two sq) 14 163846 = true := by decide +kernel
theorem sq_all {q : Nat} (h1 : 36 ≤ q) (h2 : q < 1081380) (h6 : q % 6 = 1 ∨ q % 6 = 5) (hg : Nat.gcd q WG = 1) : ¬ (2 ^ (q - 1) % (q * q) = 1 ∧ 3 ^ (q - 1) % (q * q) = 1) := by
  by_cases c0 : q < 196644
  · exact sq_ok (range_ok chkS0 (by omega) (by omega) h6) hg
  by_cases c1 : q < 393252
  · exact sq_ok (range_ok chkS1 (by omega) (by omega) h6) hg
  by_cases c2 : q < 589860
  · exact sq_ok (range_ok chkS2 (by omega) (by omega) h6) hg
  by_cases c3 : q < 786468
  · exact sq_ok (range_ok chkS3 (by omega) (by omega) h6) hg
  by_cases c4 : q < 983076
  · exact sq_ok (range_ok chkS4 (by omega) (by omega) h6) hg
  · exact sq_ok (range_ok chkS5 (by omega) (by omega) h6) hg
theorem sqfree {n q : Nat} (hn : Psp n) (h : Pdv n q) : ¬ q * q ∣ n := by
  intro hd
  have h41 := h.ge hn
  have hle := Nat.le_of_dvd (by have := hn.n3; omega) hd
  have hq : q ≤ 1048576 := by
    refine Classical.byContradiction fun hc => ?_
    have h1 : 1048577 * 1048577 ≤ q * q := Nat.mul_le_mul (by omega) (by omega)
    have h2 := hn.le
    have h3 : NN = 1099511627776 := rfl
    omega
  exact h.sqfree hn (sq_all (by omega) (by omega) (prime_six h.p h41) (prime_gcd h.p h41)) hd
end Go.Proofs.YtcglffigbdglpaaDoor
