/- Products of floats in the model, in whole numbers of the least unit. No program is named here. -/
import Derived.Test.YtnclnbbnkfolgaaIeee2
namespace Flt
open Ieee

theorem signed_mul (s t : Bool) (m n a b : Nat) : signed s m a * signed t n b = signed (s ^^ t) (m * n) (a + b) := by
  rw [signed_eq, signed_eq, signed_eq, Int.pow_add, Int.natCast_mul]
  have e : (m : Int) * 2 ^ a * ((n : Int) * 2 ^ b) = (m : Int) * (n : Int) * (2 ^ a * 2 ^ b) := by ac_rfl
  cases s <;> cases t
  · exact e
  · show (m : Int) * 2 ^ a * -((n : Int) * 2 ^ b) = -((m : Int) * (n : Int) * (2 ^ a * 2 ^ b))
    rw [Int.mul_neg, e]
  · show -((m : Int) * 2 ^ a) * ((n : Int) * 2 ^ b) = -((m : Int) * (n : Int) * (2 ^ a * 2 ^ b))
    rw [Int.neg_mul, e]
  · show -((m : Int) * 2 ^ a) * -((n : Int) * 2 ^ b) = (m : Int) * (n : Int) * (2 ^ a * 2 ^ b)
    rw [Int.neg_mul_neg, e]

theorem zero_left {x : Nat} (h : x = 0) (y : Nat) : x * y = 0 := by rw [h, Nat.zero_mul]
theorem two_posN (k : Nat) : 0 < 2 ^ k := Nat.pow_pos (by decide)

/-- the product of two numbers whose last places are not too low, to the nearest -/
theorem mul_num {x y : Nat} {a b p : Int} (hx : Num x a) (hy : Num y b) (hp : a * b = p * 2 ^ 1074) (hb : p.natAbs < 2 ^ top)
    (hplace : a = 0 ∨ b = 0 ∨ ∃ e f : Nat, 1074 ≤ e + f ∧ 2 ^ (52 + e) ≤ a.natAbs ∧ 2 ^ (52 + f) ≤ b.natAbs) : ∃ r z, double.mul x y = some r ∧ Num r z ∧ Near p z := by
  obtain ⟨s, m, i, hr, h1, _, h3, rfl⟩ := hx.ex
  obtain ⟨t, n, j, hr', h1', _, h3', rfl⟩ := hy.ex
  have hmul : double.mul x y = some (double.nearest (s ^^ t) (m * n) (i + j)) := by
    unfold Format.mul
    rw [hr, hr']; rfl
  rw [hmul]
  have hprod : sval s m i * sval t n j = signed (s ^^ t) (m * n) ((i + 1074).toNat + (j + 1074).toNat) := signed_mul _ _ _ _ _ _
  by_cases h0 : m * n = 0
  · have hz : sval s m i * sval t n j = 0 := by rw [hprod, h0, signed_eq]; simp
    have hp0 : p = 0 := by
      rw [hz] at hp
      have : (2 : Int) ^ 1074 ≠ 0 := Int.ne_of_gt (two_pos _)
      rcases Int.mul_eq_zero.1 hp.symm with h | h
      · exact h
      · exact absurd h this
    obtain ⟨z, hN, hZ⟩ := nearest_num (s ^^ t) (m * n) (i + j) (Or.inl h0) (Nat.lt_of_le_of_lt (Nat.le_of_eq (zero_left h0 _)) (two_posN top))
    refine ⟨_, z, rfl, hN, ?_⟩
    have : sval (s ^^ t) (m * n) (i + j) = 0 := by
      unfold sval
      rw [h0, signed_eq]; simp
    rw [this] at hZ
    rw [hp0]; exact hZ
  · have habs : ∀ (s : Bool) (m : Nat) (i : Int), (sval s m i).natAbs = m * 2 ^ (i + 1074).toNat := fun s m i => signed_abs _ _ _
    have hpl : -1074 ≤ i + j := by
      rcases hplace with h | h | ⟨e, f, hef, he, hf⟩
      · exfalso
        have := habs s m i
        rw [h] at this
        have hpos : 0 < 2 ^ (i + 1074).toNat := Nat.pow_pos (by decide)
        have hm0 : m ≠ 0 := fun hc => h0 (by rw [hc, Nat.zero_mul])
        have h9 := Nat.mul_pos (Nat.pos_of_ne_zero hm0) hpos
        rw [← this] at h9
        exact absurd h9 (by decide)
      · exfalso
        have := habs t n j
        rw [h] at this
        have hpos : 0 < 2 ^ (j + 1074).toNat := Nat.pow_pos (by decide)
        have hm0 : n ≠ 0 := fun hc => h0 (by rw [hc, Nat.mul_zero])
        have h9 := Nat.mul_pos (Nat.pos_of_ne_zero hm0) hpos
        rw [← this] at h9
        exact absurd h9 (by decide)
      · rw [habs] at he hf
        have he2 : m * 2 ^ (i + 1074).toNat < 2 ^ 53 * 2 ^ (i + 1074).toNat := Nat.mul_lt_mul_of_pos_right h3 (Nat.pow_pos (by decide))
        have hf2 : n * 2 ^ (j + 1074).toNat < 2 ^ 53 * 2 ^ (j + 1074).toNat := Nat.mul_lt_mul_of_pos_right h3' (Nat.pow_pos (by decide))
        rw [← Nat.pow_add] at he2 hf2
        have := two_lt (Nat.lt_of_le_of_lt he he2)
        have := two_lt (Nat.lt_of_le_of_lt hf hf2)
        omega
    have hval : sval (s ^^ t) (m * n) (i + j) = p := by
      have h4 : sval (s ^^ t) (m * n) (i + j) * 2 ^ 1074 = p * 2 ^ 1074 := by
        rw [← hp, hprod]
        unfold sval
        rw [← signed_scale]; congr 1; omega
      exact Int.eq_of_mul_eq_mul_right (Int.ne_of_gt (two_pos _)) h4
    have hb2 : m * n * 2 ^ (i + j + 1074).toNat < 2 ^ top := by
      have := habs (s ^^ t) (m * n) (i + j)
      rw [hval] at this
      rw [← this]; exact hb
    obtain ⟨z, hN, hZ⟩ := nearest_num (s ^^ t) (m * n) (i + j) (Or.inr hpl) hb2
    rw [hval] at hZ
    exact ⟨_, z, rfl, hN, hZ⟩
end Flt
