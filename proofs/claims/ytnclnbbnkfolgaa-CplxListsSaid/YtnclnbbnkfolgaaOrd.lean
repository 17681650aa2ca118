/- The words of nonnegative floats are in the floats' order. No program is named here. -/
import Derived.Test.YtnclnbbnkfolgaaIeee3
namespace Flt
open Ieee

theorem v_small {x : Nat} (h : x < 4503599627370496) : vI x = x := by
  unfold vI
  rw [read_small (by omega)]
  show sval _ _ _ = _
  unfold sval
  rw [signed_eq, show x / 9223372036854775808 % 2 = 0 from by omega, show x % 9223372036854775808 = x from by omega]
  show (x : Int) * 2 ^ 0 = _
  omega
theorem v_mid {x : Nat} (h1 : 4503599627370496 ≤ x) (h : x < 9218868437227405312) : vI x = ((4503599627370496 + x % 4503599627370496 : Nat) : Int) * 2 ^ (x / 4503599627370496 - 1) := by
  unfold vI
  rw [read_mid (by omega) (by omega)]
  show sval _ _ _ = _
  unfold sval
  rw [signed_eq, show x / 9223372036854775808 % 2 = 0 from by omega, show x % 9223372036854775808 = x from by omega, show (-1074 + ((x / 4503599627370496 - 1 : Nat) : Int) + 1074).toNat = x / 4503599627370496 - 1 from by omega]
  rfl
theorem pw_ge (a : Int) (ha : 0 ≤ a) (k : Nat) : a ≤ a * 2 ^ k := by
  have h : 1 ≤ (2 : Int) ^ k := two_pos k
  have := Int.mul_le_mul_of_nonneg_left h ha
  omega
theorem v_lt {x y : Nat} (hxy : x < y) (hy : y < 9218868437227405312) : vI x < vI y := by
  by_cases h1 : y < 4503599627370496
  · rw [v_small h1, v_small (by omega)]; omega
  · rw [v_mid (by omega) hy]
    by_cases h2 : x < 4503599627370496
    · rw [v_small h2]
      have := pw_ge ((4503599627370496 + y % 4503599627370496 : Nat) : Int) (by omega) (y / 4503599627370496 - 1)
      omega
    · rw [v_mid (by omega) (by omega)]
      by_cases h3 : x / 4503599627370496 = y / 4503599627370496
      · rw [h3]
        exact Int.mul_lt_mul_of_pos_right (by omega) (two_pos _)
      · obtain ⟨d, hd⟩ : ∃ d, y / 4503599627370496 - 1 = (x / 4503599627370496 - 1) + (d + 1) := ⟨y / 4503599627370496 - x / 4503599627370496 - 1, by omega⟩
        have h4 : ((4503599627370496 + x % 4503599627370496 : Nat) : Int) < 2 * ((4503599627370496 + y % 4503599627370496 : Nat) : Int) := by omega
        have h5 := pw_ge (((4503599627370496 + y % 4503599627370496 : Nat) : Int) * 2) (by omega) d
        have h6 : ((4503599627370496 + x % 4503599627370496 : Nat) : Int) < ((4503599627370496 + y % 4503599627370496 : Nat) : Int) * 2 * 2 ^ d := by omega
        have h7 := Int.mul_lt_mul_of_pos_right h6 (two_pos (x / 4503599627370496 - 1))
        have e : ((4503599627370496 + y % 4503599627370496 : Nat) : Int) * 2 ^ (y / 4503599627370496 - 1) = ((4503599627370496 + y % 4503599627370496 : Nat) : Int) * 2 * 2 ^ d * 2 ^ (x / 4503599627370496 - 1) := by
          rw [hd, Int.pow_add, Int.pow_succ]; ac_rfl
        rw [e]; exact h7
theorem v_cmp {x y : Nat} (hx : x < 9218868437227405312) (hy : y < 9218868437227405312) : compare (vI x) (vI y) = compare x y := by
  rcases Nat.lt_trichotomy x y with h | h | h
  · have := v_lt h hy
    simp [compare, compareOfLessAndEq, this, h]
  · subst h
    simp [compare, compareOfLessAndEq]
  · have := v_lt h hx
    have n1 : ¬ vI x < vI y := by omega
    have n2 : ¬ vI x = vI y := by omega
    have n3 : ¬ x < y := by omega
    have n4 : ¬ x = y := by omega
    simp [compare, compareOfLessAndEq, n1, n2, n3, n4]
/-- of two nonnegative finite words -/
theorem order_words {x y : Nat} (hx : x < 9218868437227405312) (hy : y < 9218868437227405312) : double.order x y = some (compare x y) := by
  have e : (2 : Nat) ^ 64 = 18446744073709551616 := rfl
  rw [order_num (num_of (by omega) (by omega)) (num_of (by omega) (by omega)), v_cmp hx hy]
/-- the sign's word -/
theorem v_neg {x y : Nat} (hx : x = y + 9223372036854775808) (hy : y < 9218868437227405312) : vI x = - vI y := by
  have e1 : x % 9223372036854775808 = y := by omega
  have e2 : x / 9223372036854775808 % 2 = 1 := by omega
  clear hx
  by_cases h3 : y < 4503599627370496
  · rw [v_small h3]
    unfold vI
    rw [read_small (by rw [e1]; exact h3)]
    show sval _ _ _ = _
    unfold sval
    rw [signed_eq, e2, e1]
    show -((y : Int) * 2 ^ 0) = _
    omega
  · rw [v_mid (by omega) hy]
    unfold vI
    rw [read_mid (by rw [e1]; exact h3) (by rw [e1]; exact hy)]
    show sval _ _ _ = _
    unfold sval
    rw [signed_eq, e2, e1, show (-1074 + ((y / 4503599627370496 - 1 : Nat) : Int) + 1074).toNat = y / 4503599627370496 - 1 from by omega]
    rfl
theorem v_nonneg {x : Nat} (h : x < 9218868437227405312) : 0 ≤ vI x := by
  have e : vI 0 = 0 := by rw [v_small (by decide)]; rfl
  by_cases h0 : x = 0
  · rw [h0, e]; omega
  · have := v_lt (x := 0) (y := x) (by omega) h
    omega
theorem read_notfin {x : Nat} (h : ¬ x % 9223372036854775808 < 9218868437227405312) : (∃ s, double.read x = .infinity s) ∨ ∃ s p, double.read x = .nan s p := by
  unfold Format.read
  rw [weight_eq, binade_eq, inf_eq]
  have h1 : ¬ x % 9223372036854775808 < 4503599627370496 := by omega
  simp only [h1, h, if_false]
  split
  · exact Or.inl ⟨_, rfl⟩
  · exact Or.inr ⟨_, _, rfl⟩
theorem order_notfin {x y : Nat} (h : ¬ x % 9223372036854775808 < 9218868437227405312) (hy : y % 9223372036854775808 < 9218868437227405312) : (double.order x y == some .eq) = false := by
  have hr : ∃ s m i, double.read y = .number s m i := by
    by_cases c : y % 9223372036854775808 < 4503599627370496
    · exact ⟨_, _, _, read_small c⟩
    · exact ⟨_, _, _, read_mid c hy⟩
  obtain ⟨s, m, i, hr⟩ := hr
  unfold Format.order
  rw [hr]
  rcases read_notfin h with ⟨t, ht⟩ | ⟨t, p, ht⟩
  · rw [ht]; cases t <;> rfl
  · rw [ht]; rfl
theorem order_zero {x : Nat} (hx : x < 18446744073709551616) (h : x % 9223372036854775808 = 0) : double.order x 0 = some .eq := by
  have e : (2 : Nat) ^ 64 = 18446744073709551616 := rfl
  have z : vI 0 = 0 := by rw [v_small (by decide)]; rfl
  have hv : vI x = 0 := by
    by_cases c : x = 0
    · rw [c]; exact z
    · rw [v_neg (y := 0) (by omega) (by decide), z]; rfl
  rw [order_num (num_of (by omega) (by omega)) (num_of (x := 0) (by decide) (by decide)), hv, z]; rfl
theorem order_pos {x : Nat} (h0 : 0 < x) (h : x < 9218868437227405312) : double.order x 0 = some .gt := by
  rw [order_words h (by decide)]
  have n2 : ¬ x = 0 := by omega
  simp [compare, compareOfLessAndEq, n2]
theorem order_neg {x y : Nat} (hx : x = y + 9223372036854775808) (h0 : 0 < y) (h : y < 9218868437227405312) : double.order x 0 = some .lt := by
  have e : (2 : Nat) ^ 64 = 18446744073709551616 := rfl
  have z : vI 0 = 0 := by rw [v_small (by decide)]; rfl
  have hv := v_lt h0 h
  rw [z] at hv
  obtain ⟨q, hqe⟩ : ∃ q, q = - vI y := ⟨_, rfl⟩
  have hq : q < 0 := by omega
  rw [order_num (num_of (by omega) (by omega)) (num_of (x := 0) (by decide) (by decide)), v_neg hx h, z, ← hqe]
  show some (compareOfLessAndEq q 0) = _
  unfold compareOfLessAndEq
  rw [if_pos hq]
theorem cmp_lt {x y : Nat} (h : x < y) : compare x y = .lt := by simp [compare, compareOfLessAndEq, h]
theorem cmp_eq (x : Nat) : compare x x = .eq := by simp [compare, compareOfLessAndEq]
theorem cmp_gt {x y : Nat} (h : y < x) : compare x y = .gt := by
  have n1 : ¬ x < y := by omega
  have n2 : ¬ x = y := by omega
  simp [compare, compareOfLessAndEq, n1, n2]
end Flt
