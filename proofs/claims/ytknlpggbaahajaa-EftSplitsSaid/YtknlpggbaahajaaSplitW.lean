/- A float in two halves by its product with 2^27 + 1, in words; products of floats over their last places. No program is named here. -/
import Derived.Test.YtknlpggbaahajaaFlt4
import Derived.Test.YtknlpggbaahajaaOrd
namespace Flt
open Ieee

/-- the last place of 1 -/
def uE : Nat := 1074
theorem two_uE : (2 : Int) ^ uE = 2 ^ 25 * 2 ^ 1049 := by
  show (2 : Int) ^ (25 + 1049) = _
  exact Int.pow_add _ _ _
theorem num_times : Num 4728779608772575232 (134217729 * 2 ^ uE) := by
  have h := num_of (x := 4728779608772575232) (by decide) (by decide)
  rw [v_mid (by decide) (by decide)] at h
  have e1 : ((4503599627370496 + 4728779608772575232 % 4503599627370496 : Nat) : Int) = 134217729 * 2 ^ 25 := by decide
  have e2 : 4728779608772575232 / 4503599627370496 - 1 = 1049 := by decide
  rw [e1, e2, Int.mul_assoc, ← two_uE] at h
  exact h
theorem topN : top = 2097 := rfl
theorem abs_lt_top {n : Int} {k : Nat} (h : n.natAbs ≤ 2 ^ k) (hk : k < 2097) : n.natAbs < 2 ^ top :=
  Nat.lt_of_le_of_lt h (two_lt' (by rw [topN]; exact hk))
theorem near_le2 {n z : Int} (h : Near n z) : z.natAbs ≤ 2 * n.natAbs := by
  have := h.le 0 fl_zero
  omega
/-- a difference of two numbers up to 2^k -/
theorem subx {x y : Nat} {a b : Int} {k : Nat} (hx : Num x a) (hy : Num y b) (ha : a.natAbs ≤ 2 ^ k) (hb : b.natAbs ≤ 2 ^ k) (hk : k + 1 < 2097) :
    ∃ r z, double.sub x y = some r ∧ Num r z ∧ Near (a - b) z ∧ z.natAbs ≤ 2 ^ (k + 2) := by
  have e : (2 : Nat) ^ (k + 1) = 2 * 2 ^ k := by rw [Nat.pow_succ, Nat.mul_comm]
  have e2 : (2 : Nat) ^ (k + 2) = 2 * (2 * 2 ^ k) := by rw [Nat.pow_succ, e, Nat.mul_comm]
  have h0 : (a - b).natAbs ≤ 2 ^ (k + 1) := by rw [e]; omega
  obtain ⟨r, z, h1, h2, h3⟩ := sub_num hx hy (abs_lt_top h0 hk)
  have := near_le2 h3
  exact ⟨r, z, h1, h2, h3, by omega⟩
theorem addx {x y : Nat} {a b : Int} {k : Nat} (hx : Num x a) (hy : Num y b) (ha : a.natAbs ≤ 2 ^ k) (hb : b.natAbs ≤ 2 ^ k) (hk : k + 1 < 2097) :
    ∃ r z, double.add x y = some r ∧ Num r z ∧ Near (a + b) z ∧ z.natAbs ≤ 2 ^ (k + 2) := by
  have e : (2 : Nat) ^ (k + 1) = 2 * 2 ^ k := by rw [Nat.pow_succ, Nat.mul_comm]
  have e2 : (2 : Nat) ^ (k + 2) = 2 * (2 * 2 ^ k) := by rw [Nat.pow_succ, e, Nat.mul_comm]
  have h0 : (a + b).natAbs ≤ 2 ^ (k + 1) := by rw [e]; omega
  obtain ⟨r, z, h1, h2, h3⟩ := add_num hx hy (abs_lt_top h0 hk)
  have := near_le2 h3
  exact ⟨r, z, h1, h2, h3, by omega⟩
/-- a product over the last places -/
theorem mulx {x y : Nat} {X Y : Int} {e f k : Nat} (hx : Num x (X * 2 ^ e)) (hy : Num y (Y * 2 ^ f)) (hX : X.natAbs ≤ 2 ^ 53) (hY : Y.natAbs ≤ 2 ^ 53) (he : 600 ≤ e) (hf : 600 ≤ f) (hk : e + f = k + uE) (hk2 : k ≤ 1980) :
    ∃ r z, double.mul x y = some r ∧ Num r z ∧ Near (X * Y * 2 ^ k) z ∧ z.natAbs ≤ 2 ^ (107 + k) := by
  have hprod : X * 2 ^ e * (Y * 2 ^ f) = X * Y * 2 ^ k * 2 ^ uE := by
    rw [Int.mul_assoc (X * Y), ← Int.pow_add, ← hk, Int.pow_add]; ac_rfl
  have hb : (X * Y * 2 ^ k).natAbs ≤ 2 ^ (106 + k) := by
    rw [shift_abs, Nat.pow_add]
    exact Nat.mul_le_mul_right _ (Nat.le_trans (mul_abs_le hX hY) (by decide))
  have low : ∀ {Z : Int} {g : Nat}, Z ≠ 0 → 600 ≤ g → 2 ^ (52 + (g - 52)) ≤ (Z * 2 ^ g).natAbs := by
    intro Z g hZ hg
    rw [shift_abs, show 52 + (g - 52) = g from by omega]
    have : 1 * 2 ^ g ≤ Z.natAbs * 2 ^ g := Nat.mul_le_mul_right _ (by omega)
    rw [Nat.one_mul] at this
    exact this
  obtain ⟨r, z, h1, h2, h3⟩ := mul_num hx hy (p := X * Y * 2 ^ k) hprod (abs_lt_top hb (by omega)) (by
    by_cases hX0 : X = 0
    · left; rw [hX0, Int.zero_mul]
    · by_cases hY0 : Y = 0
      · right; left; rw [hY0, Int.zero_mul]
      · exact Or.inr (Or.inr ⟨e - 52, f - 52, by omega, low hX0 he, low hY0 hf⟩))
  have h4 := near_le2 h3
  have e2 : (2 : Nat) ^ (107 + k) = 2 * 2 ^ (106 + k) := by rw [show 107 + k = 106 + k + 1 from by omega, Nat.pow_succ, Nat.mul_comm]
  exact ⟨r, z, h1, h2, h3, by omega⟩
theorem near_zero {z : Int} (h : Near 0 z) : z = 0 := h.self fl_zero
/-- a product with a 0 -/
theorem mul0 {x y : Nat} {a b : Int} (hx : Num x a) (hy : Num y b) (h : a = 0 ∨ b = 0) : ∃ r, double.mul x y = some r ∧ Num r 0 := by
  obtain ⟨r, z, h1, h2, h3⟩ := mul_num hx hy (p := 0) ((Int.mul_eq_zero.2 h).trans (Int.zero_mul _).symm) (by
    show 0 < 2 ^ top
    exact Nat.pow_pos (by decide)) (by rcases h with h | h; exact Or.inl h; exact Or.inr (Or.inl h))
  exact ⟨r, h1, near_zero h3 ▸ h2⟩

/-- Split's four operations -/
theorem split_words {x : Nat} {n : Int} {e : Nat} (hx : Num x n) (hd : (2 : Int) ^ e ∣ n) (hge : 2 ^ (52 + e) ≤ n.natAbs) (hlt : n.natAbs < 2 ^ (53 + e)) (he : 600 ≤ e) (he2 : e ≤ 1500) :
    ∃ c d h l H L, double.mul 4728779608772575232 x = some c ∧ double.sub c x = some d ∧ double.sub c d = some h ∧ double.sub x h = some l ∧ Num h H ∧ Num l L ∧ Halves n e H L := by
  have hT := num_times
  obtain ⟨N, hN⟩ := hd
  rw [Int.mul_comm] at hN
  have hN53 : N.natAbs ≤ 2 ^ 53 := by
    rw [hN, shift_abs, Nat.pow_add] at hlt
    exact Nat.le_of_lt (Nat.lt_of_mul_lt_mul_right hlt)
  have hle : n.natAbs ≤ 2 ^ (81 + e + 1) := Nat.le_trans (Nat.le_of_lt hlt) (two_le (by omega))
  obtain ⟨c, C, m1, m2, m3⟩ : ∃ c C, double.mul 4728779608772575232 x = some c ∧ Num c C ∧ Near (134217729 * n) C := by
    obtain ⟨r, z, h1, h2, h3, _⟩ := mulx (k := e) hT (hN ▸ hx) (by decide) hN53 (by decide) he (Nat.add_comm _ _) (by omega)
    refine ⟨r, z, h1, h2, ?_⟩
    rw [hN, ← Int.mul_assoc]; exact h3
  have hC : C.natAbs ≤ 2 ^ (81 + e + 1) := by
    have h1 := near_le2 m3
    have h2 : (134217729 * n).natAbs = 134217729 * n.natAbs := by rw [Int.natAbs_mul]; rfl
    have h3 : (2 : Nat) ^ (81 + e + 1) = 536870912 * 2 ^ (53 + e) := by
      rw [show 81 + e + 1 = 29 + (53 + e) from by omega, Nat.pow_add]
    omega
  obtain ⟨d, D, s1, s2, s3, s4⟩ := subx m2 hx hC hle (by omega)
  obtain ⟨h, H, t1, t2, t3, t4⟩ := subx m2 s2 (Nat.le_trans hC (two_le (by omega))) s4 (by omega)
  obtain ⟨l, L, u1, u2, u3, u4⟩ := subx hx t2 (Nat.le_trans hle (two_le (by omega))) t4 (by omega)
  exact ⟨c, d, h, l, H, L, m1, s1, t1, u1, t2, u2, split_halves ⟨N, by rw [Int.mul_comm]; exact hN⟩ hge hlt m3 s3 t3 u3⟩
theorem split_zero {x : Nat} (hx : Num x 0) : ∃ c d h l, double.mul 4728779608772575232 x = some c ∧ double.sub c x = some d ∧ double.sub c d = some h ∧ double.sub x h = some l ∧ Num h 0 ∧ Num l 0 := by
  obtain ⟨c, m1, m2⟩ := mul0 num_times hx (Or.inr rfl)
  have z0 : (0 : Int).natAbs ≤ 2 ^ 0 := by decide
  have key : ∀ {x y : Nat}, Num x 0 → Num y 0 → ∃ r, double.sub x y = some r ∧ Num r 0 := by
    intro x y h h'
    obtain ⟨r, z, h1, h2, h3, _⟩ := subx h h' z0 z0 (by decide)
    have hz : z = 0 := near_zero (by simpa using h3)
    exact ⟨r, h1, hz ▸ h2⟩
  obtain ⟨d, s1, s2⟩ := key m2 hx
  obtain ⟨h, t1, t2⟩ := key m2 s2
  obtain ⟨l, u1, u2⟩ := key hx t2
  exact ⟨c, d, h, l, m1, s1, t1, u1, t2, u2⟩
end Flt
