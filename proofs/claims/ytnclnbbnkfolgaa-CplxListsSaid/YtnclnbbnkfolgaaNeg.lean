/- A float's sign turned. No program is named here. -/
import Derived.Test.YtnclnbbnkfolgaaFop
import GoSem.Op.Unary
namespace Go.Proofs.Ytnclnbbnkfolgaa
open Go.RowKit

theorem xor_flip {b i : Nat} (h : b < 2 ^ i) : b ^^^ 2 ^ i = 2 ^ i + b := by
  apply Nat.eq_of_testBit_eq
  intro j
  rw [Nat.testBit_xor, Nat.testBit_two_pow]
  rcases Nat.lt_trichotomy j i with c | c | c
  · rw [Nat.testBit_two_pow_add_gt c]
    have : ¬ i = j := by omega
    simp [this]
  · subst c
    rw [Nat.testBit_two_pow_add_eq]
    simp
  · have h1 : 2 ^ i < 2 ^ j := Nat.pow_lt_pow_right (by decide) c
    have h2 : 2 ^ i * 2 ≤ 2 ^ j := by rw [← Nat.pow_succ]; exact Nat.pow_le_pow_right (by decide) c
    rw [Nat.testBit_lt_two_pow (show b < 2 ^ j by omega), Nat.testBit_lt_two_pow (show 2 ^ i + b < 2 ^ j by omega)]
    have : ¬ i = j := by omega
    simp [this]
theorem neg_eq (x : Nat) (hx : x < 18446744073709551616) : Op.negFloat .f64 x = if x < 9223372036854775808 then x + 9223372036854775808 else x - 9223372036854775808 := by
  show x ^^^ 2 ^ 63 = _
  have p : (2 : Nat) ^ 63 = 9223372036854775808 := rfl
  by_cases h : x < 9223372036854775808
  · rw [if_pos h, xor_flip (by rw [p]; exact h), p]; omega
  · rw [if_neg h]
    have e : x = (x - 9223372036854775808) ^^^ 2 ^ 63 := by rw [xor_flip (by rw [p]; omega), p]; omega
    have e2 : x ^^^ 2 ^ 63 = ((x - 9223372036854775808) ^^^ 2 ^ 63) ^^^ 2 ^ 63 := by rw [← e]
    rw [e2, Nat.xor_assoc, Nat.xor_self, Nat.xor_zero]
theorem num_neg {x : Nat} {n : Int} (h : Flt.Num x n) : Flt.Num (Op.negFloat .f64 x) (-n) := by
  have hlt : x < 18446744073709551616 := h.lt
  have hfin := h.fin
  obtain ⟨y, hy⟩ : ∃ y, y = Op.negFloat .f64 x := ⟨_, rfl⟩
  rw [← hy]
  rw [neg_eq x hlt] at hy
  have y1 : y < 18446744073709551616 := by split at hy <;> omega
  have y2 : y % 9223372036854775808 = x % 9223372036854775808 := by split at hy <;> omega
  have y3 : (y / 9223372036854775808 % 2 == 1) = !(x / 9223372036854775808 % 2 == 1) := by
    by_cases c : x < 9223372036854775808
    · rw [if_pos c] at hy
      have a1 : y / 9223372036854775808 = 1 := by omega
      have a2 : x / 9223372036854775808 = 0 := by omega
      rw [a1, a2]; rfl
    · rw [if_neg c] at hy
      have a1 : y / 9223372036854775808 = 0 := by omega
      have a2 : x / 9223372036854775808 = 1 := by omega
      rw [a1, a2]; rfl
  have hv := h.val
  unfold Flt.vI at hv
  by_cases c : x % 9223372036854775808 < 4503599627370496
  · rw [Flt.read_small c] at hv
    have hr := Flt.read_small (x := y) (by omega)
    rw [y2, y3] at hr
    exact ⟨y1, _, _, _, hr, by omega, by omega, by omega, by rw [Flt.sval_not]; exact congrArg (fun z => -z) hv.symm⟩
  · rw [Flt.read_mid c hfin] at hv
    have hr := Flt.read_mid (x := y) (by omega) (by omega)
    rw [y2, y3] at hr
    exact ⟨y1, _, _, _, hr, by omega, by omega, by omega, by rw [Flt.sval_not]; exact congrArg (fun z => -z) hv.symm⟩
theorem run_neg {P : Program} (x : Nat) (w : World) : (Op.unary .neg (.float .f64 x)).run P w = .ok (.float .f64 (Op.negFloat .f64 x)) w := rfl
end Go.Proofs.Ytnclnbbnkfolgaa
