/- The places of mild floats; a product over them. -/
import Derived.Test.YtknlpggbaahajaaEProd
import Derived.Test.YtknlpggbaahajaaRef3z
namespace Go.Proofs.Ytknlpggbaahajaa
open Go.RowKit

/-- of a mild float the place of the last bit is from -1074 (of 0) or -453 on -/
theorem mild_pE {x : Nat} {n : Int} (hx : Flt.Num x n) (hn : MildN n) : (n = 0 ∧ (pM x = 0 ∧ pE x = -1074)) ∨ (-453 ≤ pE x ∧ pE x ≤ 400) := by
  have hp := num_parts hx
  have h1 := pE_ge x
  have hA := pA_lt x
  obtain ⟨t, ht⟩ : ∃ t, t = (pE x + 1074).toNat := ⟨_, rfl⟩
  rw [← ht] at hp
  have hab : n.natAbs = pA x * 2 ^ t := by rw [hp, Int.natAbs_mul, Flt.natAbs_two, pM_abs]
  have hpos : 0 < 2 ^ t := Nat.pow_pos (by decide)
  rcases hn with rfl | ⟨h2, h3⟩
  · left
    refine ⟨rfl, ?_⟩
    have h0 : pA x = 0 := by
      rcases Nat.mul_eq_zero.1 hab.symm with h | h
      · exact h
      · omega
    refine ⟨by have := pM_abs x; omega, ?_⟩
    by_cases c : 0 < x % 9223372036854775808 / 4503599627370496
    · have := (pE_pos c).2; omega
    · exact (pE_zero c).1
  · right
    have q1 : mlo = 674 := rfl
    have q2 : mhi = 1474 := rfl
    rw [hab] at h2 h3
    have u1 : pA x * 2 ^ t < 2 ^ 53 * 2 ^ t := Nat.mul_lt_mul_of_pos_right (Nat.lt_of_lt_of_le hA (by decide)) hpos
    rw [← Nat.pow_add] at u1
    have u2 := Flt.two_lt (Nat.lt_of_le_of_lt h2 u1)
    have h52 : 4503599627370496 ≤ pA x := by
      by_cases c : 0 < x % 9223372036854775808 / 4503599627370496
      · have := (pE_pos c).2; omega
      · have := (pE_zero c).1; omega
    have u3 : 2 ^ 52 * 2 ^ t ≤ pA x * 2 ^ t := Nat.mul_le_mul_right _ h52
    rw [← Nat.pow_add] at u3
    have u4 := Flt.two_lt (Nat.lt_of_le_of_lt u3 h3)
    omega
theorem two_uE2 : (2 : Int) ^ Flt.uE = 2 ^ 126 * 2 ^ 948 := by
  show (2 : Int) ^ (126 + 948) = _
  exact Int.pow_add _ _ _
theorem times_mild (g : Nat) (f : Nat → Int) (x y : Nat) (a b T : Int) (w : World) (hx : Flt.Num x a) (hy : Flt.Num y b) (ha : MildN a) (hb : MildN b) (hT : a * b = T * 2 ^ Flt.uE) (hf : LongAt w g f) (hbd : ∀ i, (f i).natAbs ≤ 1125899906842624) :
    Calls Try.prog 18 #[.pointer (some ⟨g, 0, none⟩), .float .f64 x, .float .f64 y] w fun r w' => r = .returned (.tuple #[]) ∧ ∃ f', LongAt w' g f' ∧ lval f' = lval f + T * 2 ^ 126 ∧ (∀ j, (f' j - f j).natAbs ≤ 12884901888) ∧ Below g w w' := by
  have zero : a * b = 0 → pM x = 0 ∨ pM y = 0 → Calls Try.prog 18 #[.pointer (some ⟨g, 0, none⟩), .float .f64 x, .float .f64 y] w fun r w' => r = .returned (.tuple #[]) ∧ ∃ f', LongAt w' g f' ∧ lval f' = lval f + T * 2 ^ 126 ∧ (∀ j, (f' j - f j).natAbs ≤ 12884901888) ∧ Below g w w' := by
    intro h0 hz
    have hT0 : T = 0 := by
      rw [h0] at hT
      rcases Int.mul_eq_zero.1 hT.symm with h | h
      · exact h
      · exact absurd h (Int.ne_of_gt (Flt.two_pos _))
    refine (times_zero _ x y w hx.fin hy.fin hz).mono ?_
    rintro r w' ⟨rfl, rfl⟩
    exact ⟨rfl, f, hf, by rw [hT0]; simp, fun j => by simp, Below.refl _ _⟩
  rcases mild_pE hx ha with ⟨h1, h2, _⟩ | ⟨h1, h2⟩
  · exact zero (by rw [h1, Int.zero_mul]) (Or.inl h2)
  · rcases mild_pE hy hb with ⟨k1, k2, _⟩ | ⟨k1, k2⟩
    · exact zero (by rw [k1, Int.mul_zero]) (Or.inr k2)
    · refine (times_any g f x y w hx.fin hy.fin hf (by omega) (by omega) hbd).mono ?_
      rintro r w' ⟨rfl, f', l1, v1, d1, e1⟩
      refine ⟨rfl, f', l1, ?_, d1, e1⟩
      rw [v1]
      refine congrArg (lval f + ·) ?_
      have hp := num_parts hx
      have hq := num_parts hy
      obtain ⟨s, hs⟩ : ∃ s, s = (pE x + 1074).toNat := ⟨_, rfl⟩
      obtain ⟨t, ht⟩ : ∃ t, t = (pE y + 1074).toNat := ⟨_, rfl⟩
      obtain ⟨E, hE⟩ : ∃ E, E = (pE x + pE y + 1200).toNat := ⟨_, rfl⟩
      rw [← hs] at hp
      rw [← ht] at hq
      rw [← hE]
      have hst : s + t = E + 948 := by omega
      have h3 : pM x * pM y * 2 ^ E * 2 ^ 948 = T * 2 ^ 126 * 2 ^ 948 := by
        have e1 : pM x * pM y * 2 ^ E * 2 ^ 948 = a * b := by
          rw [hp, hq, Int.mul_assoc (pM x * pM y), ← Int.pow_add, ← hst, Int.pow_add]; ac_rfl
        rw [e1, hT, two_uE2, Int.mul_assoc T]
      exact Int.eq_of_mul_eq_mul_right (Int.ne_of_gt (Flt.two_pos 948)) h3
end Go.Proofs.Ytknlpggbaahajaa
