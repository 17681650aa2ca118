/- Layer 1 as the chapter has it, in plain numbers: products, powers, divisors, multiples, inverses. No program is named here. -/
import Derived.Test.YtcglffigbdglpaaDoorMath
namespace Go.Proofs.YtcglffigbdglpaaDoor

/-- the document's product -/
def mulS (a b m : Int) : Int := if 1 ≤ m ∧ m ≤ 4611686018427387904 then (a * b) % m else -1
theorem mulS_yes {a b m : Int} (h1 : 1 ≤ m) (h2 : m ≤ 4611686018427387904) : mulS a b m = (a * b) % m := if_pos ⟨h1, h2⟩
theorem mulS_no {a b m : Int} (h : m < 1 ∨ 4611686018427387904 < m) : mulS a b m = -1 := if_neg (by omega)

/-- the document's power -/
def powS (a e m : Int) : Int := if 1 ≤ m ∧ m ≤ 4611686018427387904 ∧ 0 ≤ e then (a ^ e.toNat) % m else -1
theorem powS_yes {a e m : Int} (h1 : 1 ≤ m) (h2 : m ≤ 4611686018427387904) (h3 : 0 ≤ e) : powS a e m = (a ^ e.toNat) % m := if_pos ⟨h1, h2, h3⟩
theorem powS_no {a e m : Int} (h : m < 1 ∨ 4611686018427387904 < m ∨ e < 0) : powS a e m = -1 := if_neg (by omega)

structure PowInv (a e m p s e' : Int) : Prop where
  p0 : 0 ≤ p
  p1 : p < m
  e0 : 0 ≤ e'
  e1 : e' ≤ e
  eq : (p * s ^ e'.toNat) % m = (a ^ e.toNat) % m
theorem PowInv.start {a e m : Int} (h1 : 1 ≤ m) (h3 : 0 ≤ e) : PowInv a e m (1 % m) a e :=
  ⟨Int.emod_nonneg _ (by omega), Int.emod_lt_of_pos _ (by omega), h3, by omega, by rw [Dia.mul_emod_l, Int.one_mul]⟩
theorem PowInv.start' {a e m : Int} (h1 : 1 ≤ m) (h3 : 0 ≤ e) : PowInv a e m (1 % m) (a % m) e :=
  ⟨Int.emod_nonneg _ (by omega), Int.emod_lt_of_pos _ (by omega), h3, by omega, by rw [Dia.mul_emod_l, Int.one_mul, Dia.pow_emod]⟩
theorem PowInv.odd {a e m p s e' : Int} (h : PowInv a e m p s e') (h1 : 1 ≤ m) (h2 : e' % 2 = 1) : PowInv a e m ((p * s) % m) ((s * s) % m) (e' / 2) := by
  have e0 := h.e0
  have e1 := h.e1
  exact ⟨Int.emod_nonneg _ (by omega), Int.emod_lt_of_pos _ (by omega), by omega, by omega, by rw [Dia.sqr_odd _ _ _ _ e0 h2, h.eq]⟩
theorem PowInv.even {a e m p s e' : Int} (h : PowInv a e m p s e') (h2 : e' % 2 = 0) : PowInv a e m p ((s * s) % m) (e' / 2) := by
  have e0 := h.e0
  have e1 := h.e1
  exact ⟨h.p0, h.p1, by omega, by omega, by rw [Dia.sqr_even _ _ _ _ e0 h2, h.eq]⟩
theorem PowInv.done {a e m p s e' : Int} (h : PowInv a e m p s e') (hp : ¬ 0 < e') : p = (a ^ e.toNat) % m := by
  have e0 := h.e0
  have : e' = 0 := by omega
  rw [← h.eq, this]
  simp [Int.emod_eq_of_lt h.p0 h.p1]

/-- the document's greatest common divisor -/
def gcdS (a b : Int) : Int := if 0 ≤ a ∧ 0 ≤ b then (Int.gcd a b : Int) else -1
theorem gcdS_yes {a b : Int} (h1 : 0 ≤ a) (h2 : 0 ≤ b) : gcdS a b = (Int.gcd a b : Int) := if_pos ⟨h1, h2⟩
theorem gcdS_no {a b : Int} (h : a < 0 ∨ b < 0) : gcdS a b = -1 := if_neg (by omega)

structure GcdInv (a b x y : Int) : Prop where
  x0 : 0 ≤ x
  y0 : 0 ≤ y
  x1 : x ≤ 9223372036854775807
  y1 : y ≤ 9223372036854775807
  g : Int.gcd x y = Int.gcd a b
theorem GcdInv.less {a b x y : Int} (h : GcdInv a b x y) (hx : 0 < x) : GcdInv a b x (y % x) :=
  ⟨h.x0, Int.emod_nonneg _ (by omega), h.x1, by have := Int.emod_lt_of_pos y hx; have := h.x1; omega, by rw [Dia.gcd_step_r, h.g]⟩
theorem GcdInv.more {a b x y : Int} (h : GcdInv a b x y) (hy : 0 < y) : GcdInv a b (x % y) y :=
  ⟨Int.emod_nonneg _ (by omega), h.y0, by have := Int.emod_lt_of_pos x hy; have := h.y1; omega, h.y1, by rw [Dia.gcd_step_l, h.g]⟩

/-- the document's least common multiple: is there one, and which -/
def lcmB (a b most : Int) : Bool := decide (1 ≤ a ∧ 1 ≤ b ∧ a / (Int.gcd a b : Int) * b ≤ most)
def lcmV (a b most : Int) : Int := if lcmB a b most = true then a / (Int.gcd a b : Int) * b else 0
theorem lcm_yes {a b most : Int} (h1 : 1 ≤ a) (h2 : 1 ≤ b) (h3 : a / (Int.gcd a b : Int) * b ≤ most) : lcmB a b most = true ∧ lcmV a b most = a / (Int.gcd a b : Int) * b := by
  have h : lcmB a b most = true := decide_eq_true ⟨h1, h2, h3⟩
  exact ⟨h, by unfold lcmV; rw [if_pos h]⟩
theorem lcm_no {a b most : Int} (h : a < 1 ∨ b < 1 ∨ most < a / (Int.gcd a b : Int) * b) : lcmB a b most = false ∧ lcmV a b most = 0 := by
  have h : lcmB a b most = false := decide_eq_false (by omega)
  exact ⟨h, by unfold lcmV; rw [h]; rfl⟩

/-- is there an inverse -/
def hasInv (a m : Int) : Bool := decide (1 ≤ m ∧ m ≤ 4611686018427387904 ∧ (Int.gcd m (a % m) : Int) = 1)

end Go.Proofs.YtcglffigbdglpaaDoor
