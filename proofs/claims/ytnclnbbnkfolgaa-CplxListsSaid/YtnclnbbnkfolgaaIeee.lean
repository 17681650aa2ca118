/- The float operations of the model, in whole numbers of the least unit: finite words, what they stand for, rounding, sums, products, order. No program is named here. -/
import Derived.Test.YtnclnbbnkfolgaaFlt
import Derived.Laws.FloatArith
namespace Flt
open Ieee

/-- the number that stands there, in units of 2^-1074 -/
def sval (s : Bool) (m : Nat) (i : Int) : Int := signed s m (i + 1074).toNat
theorem signed_eq (s : Bool) (m u : Nat) : signed s m u = (if s then -((m : Int) * 2 ^ u) else (m : Int) * 2 ^ u) := by
  unfold signed
  rw [Nat.shiftLeft_eq, Int.natCast_mul, Int.natCast_pow]
  rfl
theorem signed_abs (s : Bool) (m u : Nat) : (signed s m u).natAbs = m * 2 ^ u := by
  rw [signed_eq]
  have h : ((m : Int) * 2 ^ u).natAbs = m * 2 ^ u := by rw [Int.natAbs_mul, natAbs_two]; rfl
  cases s
  · exact h
  · show (-((m : Int) * 2 ^ u)).natAbs = _
    rw [Int.natAbs_neg]; exact h

/-- x is the word of a finite float that is n units -/
structure Num (x : Nat) (n : Int) : Prop where
  lt : x < 2 ^ 64
  ex : ∃ s m i, double.read x = .number s m i ∧ -1074 ≤ i ∧ i ≤ 971 ∧ m < 2 ^ 53 ∧ n = sval s m i

theorem Num.fl {x : Nat} {n : Int} (h : Num x n) : FL n := by
  obtain ⟨s, m, i, _, h1, _, h3, rfl⟩ := h.ex
  unfold sval
  rw [signed_eq]
  cases s
  · exact ⟨m, (i + 1074).toNat, rfl, h3⟩
  · exact ⟨-m, (i + 1074).toNat, by rw [Int.neg_mul]; rfl, by rw [Int.natAbs_neg]; exact h3⟩

theorem least : double.leastPlace = -1074 := by decide
theorem binade_eq : double.binade = 4503599627370496 := by decide
theorem inf_eq : double.infRung = 9218868437227405312 := by decide
theorem weight_eq : double.signWeight = 9223372036854775808 := by decide
theorem fraction_eq : double.fractionBits = 52 := by decide

theorem read_small {x : Nat} (h : x % 9223372036854775808 < 4503599627370496) : double.read x = .number (x / 9223372036854775808 % 2 == 1) (x % 9223372036854775808) (-1074) := by
  unfold Format.read
  rw [weight_eq, binade_eq, least]
  simp only [h, if_true]
theorem read_mid {x : Nat} (h1 : ¬ x % 9223372036854775808 < 4503599627370496) (h : x % 9223372036854775808 < 9218868437227405312) :
    double.read x = .number (x / 9223372036854775808 % 2 == 1) (4503599627370496 + x % 9223372036854775808 % 4503599627370496) (-1074 + (x % 9223372036854775808 / 4503599627370496 - 1 : Nat)) := by
  unfold Format.read
  rw [weight_eq, binade_eq, inf_eq, least]
  simp only [h1, h, if_true, if_false]
/-- what a word stands for, in units; of what isn't finite 0 -/
def vI (x : Nat) : Int := match double.read x with
  | .number s m i => sval s m i
  | _ => 0
theorem Num.val {x : Nat} {n : Int} (h : Num x n) : vI x = n := by
  obtain ⟨s, m, i, hr, _, _, _, rfl⟩ := h.ex
  unfold vI
  rw [hr]
theorem Num.unique {x : Nat} {n k : Int} (h : Num x n) (h' : Num x k) : n = k := by rw [← h.val, ← h'.val]
/-- a finite word -/
theorem num_of {x : Nat} (h : x < 2 ^ 64) (hf : x % 9223372036854775808 < 9218868437227405312) : Num x (vI x) := by
  have key : ∃ n, Num x n := by
    by_cases h1 : x % 9223372036854775808 < 4503599627370496
    · exact ⟨_, h, _, _, _, read_small h1, by omega, by omega, by omega, rfl⟩
    · exact ⟨_, h, _, _, _, read_mid h1 hf, by omega, by omega, by omega, rfl⟩
  obtain ⟨n, hn⟩ := key
  rw [hn.val]; exact hn
theorem Num.fin {x : Nat} {n : Int} (h : Num x n) : x % 9223372036854775808 < 9218868437227405312 := by
  obtain ⟨s, m, i, hr, _⟩ := h.ex
  refine Classical.byContradiction fun hc => ?_
  unfold Format.read at hr
  rw [weight_eq, binade_eq, inf_eq] at hr
  have h1 : ¬ x % 9223372036854775808 < 4503599627370496 := by omega
  simp only [h1, hc, if_false] at hr
  split at hr <;> cases hr

theorem log2_shift {m : Nat} (hm : m ≠ 0) (d : Nat) : (m * 2 ^ d).log2 = m.log2 + d := by
  have h1 := Nat.log2_self_le hm
  have h2 := @Nat.lt_log2_self m
  have hpos : 0 < 2 ^ d := Nat.pow_pos (by decide)
  have hne : m * 2 ^ d ≠ 0 := Nat.mul_ne_zero hm (by omega)
  refine (Nat.log2_eq_iff hne).2 ⟨?_, ?_⟩
  · rw [Nat.pow_add]; exact Nat.mul_le_mul_right _ h1
  · rw [show m.log2 + d + 1 = m.log2 + 1 + d from by omega, Nat.pow_add]; exact Nat.mul_lt_mul_of_pos_right h2 hpos

theorem cut_zero (s : Bool) (n : Nat) : Toward.even.cut s n 0 = n := by
  unfold Toward.cut
  simp [Nat.mod_one]
theorem tie_bool (A R Q : Nat) : (decide (A < R) || (A == R && Q == 1)).toNat = if A < R ∨ (A = R ∧ Q = 1) then 1 else 0 := by
  by_cases h1 : A < R
  · simp [h1]
  · by_cases h2 : A = R
    · by_cases h3 : Q = 1
      · simp [h2, h3]
      · simp [h2, h3]
    · simp [h1, h2]
theorem cut_some (s : Bool) (n drop : Nat) (h : drop ≤ n.log2 + 2) : Toward.even.cut s n drop = n / 2 ^ drop + (if 2 ^ drop < 2 * (n % 2 ^ drop) ∨ (2 ^ drop = 2 * (n % 2 ^ drop) ∧ n / 2 ^ drop % 2 = 1) then 1 else 0) := by
  unfold Toward.cut
  rw [Nat.min_eq_left h, Nat.shiftLeft_eq, Nat.one_mul]
  exact congrArg (n / 2 ^ drop + ·) (tie_bool (2 ^ drop) (2 * (n % 2 ^ drop)) (n / 2 ^ drop % 2))

/-- a word read back -/
theorem read_word (s : Bool) (k kept : Nat) (hk : kept ≤ 2 ^ 53) (hlow : k = 0 ∨ 2 ^ 52 ≤ kept) (hk2 : k ≤ 2044) : Num (double.word s (k * 4503599627370496 + kept)) (if s then -((kept : Int) * 2 ^ k) else (kept : Int) * 2 ^ k) ∧ k * 4503599627370496 + kept < 9218868437227405312 := by
  have h53 : (2 : Nat) ^ 53 = 9007199254740992 := rfl
  have h52 : (2 : Nat) ^ 52 = 4503599627370496 := rfl
  have hr : k * 4503599627370496 + kept < 9218868437227405312 := by omega
  refine ⟨⟨?_, ?_⟩, hr⟩
  · unfold Format.word
    rw [weight_eq]
    have : (2 : Nat) ^ 64 = 18446744073709551616 := rfl
    split <;> omega
  · have hread : double.read (double.word s (k * 4503599627370496 + kept)) =
        (if k * 4503599627370496 + kept < 4503599627370496 then .number s (k * 4503599627370496 + kept) (-1074)
         else .number s (4503599627370496 + (k * 4503599627370496 + kept) % 4503599627370496) (-1074 + ((k * 4503599627370496 + kept) / 4503599627370496 - 1 : Nat))) := by
      unfold Format.read Format.word
      rw [weight_eq, binade_eq, inf_eq, least]
      have e1 : (if s = true then 9223372036854775808 + (k * 4503599627370496 + kept) else k * 4503599627370496 + kept) % 9223372036854775808 = k * 4503599627370496 + kept := by
        cases s
        · simp only [Bool.false_eq_true, if_false]; omega
        · simp only [if_true]; omega
      have e2 : ((if s = true then 9223372036854775808 + (k * 4503599627370496 + kept) else k * 4503599627370496 + kept) / 9223372036854775808 % 2 == 1) = s := by
        cases s
        · simp only [Bool.false_eq_true, if_false]
          have : (k * 4503599627370496 + kept) / 9223372036854775808 = 0 := by omega
          rw [this]; rfl
        · simp only [if_true]
          have : (9223372036854775808 + (k * 4503599627370496 + kept)) / 9223372036854775808 = 1 := by omega
          rw [this]; rfl
      simp only [e1, e2, hr, if_true]
    by_cases c1 : k * 4503599627370496 + kept < 4503599627370496
    · rw [if_pos c1] at hread
      have k0 : k = 0 := by omega
      subst k0
      refine ⟨_, _, _, hread, by omega, by omega, by omega, ?_⟩
      unfold sval
      rw [signed_eq]; simp
    · rw [if_neg c1] at hread
      by_cases c2 : kept = 9007199254740992
      · subst c2
        have e3 : (k * 4503599627370496 + 9007199254740992) / 4503599627370496 - 1 = k + 1 := by omega
        have e4 : (k * 4503599627370496 + 9007199254740992) % 4503599627370496 = 0 := by omega
        rw [e3, e4] at hread
        refine ⟨_, _, _, hread, by omega, by omega, by omega, ?_⟩
        unfold sval
        rw [signed_eq, show (-1074 + ((k + 1 : Nat) : Int) + 1074).toNat = k + 1 from by omega, Int.pow_succ]
        have e5 : ((4503599627370496 + 0 : Nat) : Int) * (2 ^ k * 2) = ((9007199254740992 : Nat) : Int) * 2 ^ k := by
          rw [Int.mul_comm (2 ^ k) 2, ← Int.mul_assoc]; rfl
        rw [e5]
      · have e3 : (k * 4503599627370496 + kept) / 4503599627370496 - 1 = k := by omega
        have e4 : 4503599627370496 + (k * 4503599627370496 + kept) % 4503599627370496 = kept := by omega
        rw [e3, e4] at hread
        refine ⟨_, _, _, hread, by omega, by omega, by omega, ?_⟩
        unfold sval
        rw [signed_eq, show (-1074 + ((k : Nat) : Int) + 1074).toNat = k from by omega]
end Flt
