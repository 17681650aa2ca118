import Derived.Test.YtknlpggbaahajaaRef3a
import Derived.Test.YtknlpggbaahajaaLong
namespace Go.Proofs.Ytknlpggbaahajaa
open Go.RowKit
theorem bits_30 (x : Int) (h0 : 0 ≤ x) (h1 : x ≤ 18446744073709551615) : bits .and .u64 x 1073741823 = x % 1073741824 := by
  obtain ⟨n, rfl⟩ := Int.eq_ofNat_of_zero_le h0
  have h2 : (BitVec.ofInt 64 (n : Int)).toNat = n := by
    rw [BitVec.ofInt_natCast, BitVec.toNat_ofNat]; exact Nat.mod_eq_of_lt (by omega)
  show IntKind.u64.wrap ((BitVec.ofInt 64 (n : Int) &&& BitVec.ofInt 64 1073741823).toNat : Int) = _
  rw [BitVec.toNat_and, h2]
  have h3 : (BitVec.ofInt 64 1073741823).toNat = 2 ^ 30 - 1 := by decide
  rw [h3, Nat.and_two_pow_sub_one_eq_mod, IntKind.wrap_u64]
  omega
theorem bits_30n (x : Nat) (h1 : x ≤ 18446744073709551615) : bits .and .u64 (x : Int) 1073741823 = ((x % 1073741824 : Nat) : Int) := by
  rw [bits_30 _ (by omega) (by omega)]; omega
theorem shl_small {P s : Nat} (hP : P < 1073741824) (hs : s < 30) : P * 2 ^ s < 1152921504606846976 ∧ IntKind.u64.wrap ((P : Int) * 2 ^ s) = ((P * 2 ^ s : Nat) : Int) := by
  have h1 : 2 ^ s ≤ 2 ^ 30 := Nat.pow_le_pow_right (by decide) (by omega)
  have h2 : P * 2 ^ s ≤ P * 2 ^ 30 := Nat.mul_le_mul_left _ h1
  have h3 : P * 2 ^ 30 < 1073741824 * 2 ^ 30 := Nat.mul_lt_mul_of_pos_right hP (by decide)
  have h4 : (1073741824 * 2 ^ 30 : Nat) = 1152921504606846976 := by decide
  have h5 : P * 2 ^ s < 1152921504606846976 := by rw [← h4]; exact Nat.lt_of_le_of_lt h2 h3
  refine ⟨h5, ?_⟩
  have : (P : Int) * 2 ^ s = ((P * 2 ^ s : Nat) : Int) := by rw [Int.natCast_mul, pw]
  rw [this]
  generalize P * 2 ^ s = Q at h5
  rw [IntKind.wrap_u64]; omega
theorem wrap64_nat {L : Nat} (h : L < 1073741824) : wrap64 (L : Int) = (L : Int) ∧ wrap64 (-(L : Int)) = -(L : Int) := by unfold wrap64; omega
theorem fold {Q : Nat} (hQ : Q < 1152921504606846976) : ∃ a b : Int, bits .and .u64 (Q : Int) 1073741823 = a ∧ (Q : Int) / 1073741824 = b ∧ a = ((Q % 1073741824 : Nat) : Int) ∧ b = ((Q / 1073741824 : Nat) : Int) ∧ 0 ≤ a ∧ a < 1073741824 ∧ 0 ≤ b ∧ b < 1073741824 := by
  refine ⟨((Q % 1073741824 : Nat) : Int), ((Q / 1073741824 : Nat) : Int), bits_30n Q (by omega), ?_, rfl, rfl, ?_, ?_, ?_, ?_⟩
  all_goals omega
theorem limb_bound {x f : Int} {i : Nat} (hi : i ≤ 3) (h : (x - f).natAbs ≤ i * 1073741824) (hf : f.natAbs ≤ 1152921504606846976) : -1152921507828072449 < x ∧ x < 1152921507828072449 := by
  have h1 := Nat.le_trans h (Nat.mul_le_mul_right 1073741824 hi)
  have h2 : 3 * 1073741824 = 3221225472 := rfl
  rw [h2] at h1
  omega
theorem wrap_sum {v a : Int} (hv : -1152921507828072449 < v ∧ v < 1152921507828072449) (ha : -1073741825 < a ∧ a < 1073741825) : IntKind.i64.wrap (v + a) = v + a := by
  rw [IntKind.wrap_i64]; omega
theorem wrap_idx {k i J : Nat} (h : J = k + i) (hJ : J < 110) : IntKind.i64.wrap ((k : Int) + (i : Int)) = (J : Int) ∧ IntKind.i64.wrap ((J : Int) + 1) = (J : Int) + 1 := by
  rw [IntKind.wrap_i64, IntKind.wrap_i64]; omega
end Go.Proofs.Ytknlpggbaahajaa
