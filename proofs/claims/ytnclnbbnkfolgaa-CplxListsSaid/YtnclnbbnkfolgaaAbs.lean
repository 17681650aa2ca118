/- math.Abs: a float's word without its sign; orders of such words with finite ones. -/
import Derived.Test.YtnclnbbnkfolgaaBits3
import Derived.Test.YtnclnbbnkfolgaaOrd
namespace Flt
open Ieee

theorem read_inf {y : Nat} (h : y = 9218868437227405312) : double.read y = .infinity false := by subst h; decide +kernel
theorem read_nan {y : Nat} (h : 9218868437227405312 < y) (h2 : y < 9223372036854775808) : ∃ s p, double.read y = .nan s p := by
  unfold Format.read
  rw [weight_eq, binade_eq, inf_eq]
  have e : y % 9223372036854775808 = y := Nat.mod_eq_of_lt h2
  have h1 : ¬ y < 4503599627370496 := by omega
  have h3 : ¬ y < 9218868437227405312 := by omega
  have h4 : ¬ y = 9218868437227405312 := by omega
  simp only [e, h1, h3, h4, if_false]
  exact ⟨_, _, rfl⟩
theorem read_fin {c : Nat} (hc : c < 9218868437227405312) : ∃ s m i, double.read c = .number s m i := by
  by_cases k : c % 9223372036854775808 < 4503599627370496
  · exact ⟨_, _, _, read_small k⟩
  · exact ⟨_, _, _, read_mid k (by omega)⟩
/-- a word without a sign beside a finite one -/
theorem ord4 (y c : Nat) (hy : y < 9223372036854775808) (hc : c < 9218868437227405312) :
    (double.order y c = some .lt ∧ y < c) ∨ (double.order y c = some .eq ∧ y = c) ∨ (double.order y c = some .gt ∧ c < y ∧ y ≤ 9218868437227405312) ∨ (double.order y c = none ∧ 9218868437227405312 < y) := by
  by_cases h : y < 9218868437227405312
  · rw [order_words h hc]
    rcases Nat.lt_trichotomy y c with k | k | k
    · exact Or.inl ⟨congrArg some (cmp_lt k), k⟩
    · exact Or.inr (Or.inl ⟨by rw [k]; exact congrArg some (cmp_eq c), k⟩)
    · exact Or.inr (Or.inr (Or.inl ⟨congrArg some (cmp_gt k), k, by omega⟩))
  · obtain ⟨s, m, i, hr⟩ := read_fin hc
    by_cases h2 : y = 9218868437227405312
    · refine Or.inr (Or.inr (Or.inl ⟨?_, by omega, by omega⟩))
      unfold Format.order
      rw [hr, read_inf h2]; rfl
    · obtain ⟨t, p, hn⟩ := read_nan (y := y) (by omega) hy
      refine Or.inr (Or.inr (Or.inr ⟨?_, by omega⟩))
      unfold Format.order
      rw [hr, hn]; rfl
/-- a finite word beside the infinity -/
theorem ord_inf {y : Nat} (hy : y < 9218868437227405312) : double.order y 9218868437227405312 = some .lt := by
  obtain ⟨s, m, i, hr⟩ := read_fin hy
  unfold Format.order
  rw [hr, read_inf rfl]; rfl
end Flt
namespace Go.Proofs.Ytnclnbbnkfolgaa
open Go.RowKit

theorem bits_abs (x : Nat) (hx : x < 18446744073709551616) : bits .andNot .u64 (x : Int) 9223372036854775808 = ((x % 9223372036854775808 : Nat) : Int) := by
  have h2 : (BitVec.ofInt 64 (x : Int)).toNat = x := by
    rw [BitVec.ofInt_natCast, BitVec.toNat_ofNat]; exact Nat.mod_eq_of_lt (by omega)
  show IntKind.u64.wrap ((BitVec.ofInt 64 (x : Int) &&& ~~~(BitVec.ofInt 64 9223372036854775808)).toNat : Int) = _
  have h3 : (~~~(BitVec.ofInt 64 9223372036854775808)).toNat = 2 ^ 63 - 1 := by decide
  rw [BitVec.toNat_and, h2, h3, Nat.and_two_pow_sub_one_eq_mod, IntKind.wrap_u64]
  omega
theorem ret_f64 {a b : Nat} (h : a = b) : Ending.returned (.float .f64 a) = .returned (.float .f64 b) := by rw [h]
theorem abs_any (x : Nat) (w : World) (hx : x < 18446744073709551616) :
    Calls Try.prog 29 #[.float .f64 x] w fun e w' => e = .returned (.float .f64 (x % 9223372036854775808)) ∧ w = w' := by
  obtain ⟨y, hy⟩ : ∃ y, y = x % 9223372036854775808 := ⟨_, rfl⟩
  have hb : bits .andNot .u64 (x : Int) 9223372036854775808 = (y : Int) := by rw [hy]; exact bits_abs x hx
  have r1 := fun w => run_bits x w
  have r2 := fun w => run_frombits (y : Int) w
  rw [← hy]
  clear hy hx
  go_enter Try.func29, Try.ntmps29
  go_wp2
  go_ret
  exact ⟨ret_f64 (by simp), rfl⟩
end Go.Proofs.Ytnclnbbnkfolgaa
