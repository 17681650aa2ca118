/- Plain facts on whole numbers that layer 1 leans on: remainders, powers by squaring, Euclid's pairs, and the digit of a long division. No program is named here. -/
namespace Dia

/-! remainders -/
theorem emod_congr {a b m : Int} (k : Int) (h : a = b + m * k) : a % m = b % m := by
  rw [h, Int.add_mul_emod_self_left]

theorem mul_emod_l (a b m : Int) : ((a % m) * b) % m = (a * b) % m := by
  rw [Int.mul_emod, Int.emod_emod, ← Int.mul_emod]
theorem mul_emod_r (a b m : Int) : (a * (b % m)) % m = (a * b) % m := by
  rw [Int.mul_emod, Int.emod_emod, ← Int.mul_emod]
theorem add_emod_l (a b m : Int) : ((a % m) + b) % m = (a + b) % m := by
  rw [Int.add_emod, Int.emod_emod, ← Int.add_emod]
theorem add_emod_r (a b m : Int) : (a + (b % m)) % m = (a + b) % m := by
  rw [Int.add_emod, Int.emod_emod, ← Int.add_emod]

/-- Go's remainder, made one from 0 on. -/
theorem tmod_neg {x m : Int} (hm : 0 < m) (h : x.tmod m < 0) : x.tmod m + m = x % m := by
  have h1 := Int.emod_nonneg x (by omega : m ≠ 0)
  have h2 := Int.emod_lt_of_pos x hm
  have h3 := @Int.tmod_eq_emod x m
  split at h3 <;> omega
theorem tmod_pos {x m : Int} (hm : 0 < m) (h : 0 ≤ x.tmod m) : x.tmod m = x % m := by
  have h1 := Int.emod_nonneg x (by omega : m ≠ 0)
  have h2 := Int.emod_lt_of_pos x hm
  have h3 := @Int.tmod_eq_emod x m
  split at h3 <;> omega
theorem tmod_bd {x m : Int} (hm : 0 < m) : -m < x.tmod m ∧ x.tmod m < m := by
  have h1 := Int.emod_nonneg x (by omega : m ≠ 0)
  have h2 := Int.emod_lt_of_pos x hm
  have h3 := @Int.tmod_eq_emod x m
  split at h3 <;> omega

/-! a product by doubling -/
theorem dbl_even (o a b m : Int) (h : b % 2 = 0) : (o + ((a + a) % m) * (b / 2)) % m = (o + a * b) % m := by
  have hb : b = 2 * (b / 2) := by omega
  have e : a * b = (a + a) * (b / 2) := by
    have e1 : a * b = a * (2 * (b / 2)) := by rw [← hb]
    rw [e1, ← Int.mul_assoc, Int.mul_comm a 2, Int.two_mul]
  rw [← add_emod_r, mul_emod_l, add_emod_r, e]
theorem dbl_odd (o a b m : Int) (h : b % 2 = 1) : ((o + a) % m + ((a + a) % m) * (b / 2)) % m = (o + a * b) % m := by
  have hb : b = 2 * (b / 2) + 1 := by omega
  have e : a * b = a + (a + a) * (b / 2) := by
    have e1 : a * b = a * (2 * (b / 2) + 1) := by rw [← hb]
    rw [e1, Int.mul_add, ← Int.mul_assoc, Int.mul_comm a 2, Int.two_mul]; omega
  rw [add_emod_l, ← add_emod_r, mul_emod_l, add_emod_r, e, Int.add_assoc]

/-! a power by squaring -/
theorem pow_emod (a m : Int) : ∀ n : Nat, ((a % m) ^ n) % m = (a ^ n) % m
  | 0 => by simp
  | n + 1 => by
    rw [Int.pow_succ, Int.pow_succ, mul_emod_r, ← mul_emod_l, pow_emod a m n, mul_emod_l]
theorem sq_pow (s : Int) (n : Nat) : (s * s) ^ n = s ^ (2 * n) := by
  have : s * s = s ^ 2 := by rw [Int.pow_succ, Int.pow_succ, Int.pow_zero, Int.one_mul]
  rw [this, ← Int.pow_mul]
theorem sqr_even (p s m e : Int) (he : 0 ≤ e) (h : e % 2 = 0) : (p * ((s * s) % m) ^ (e / 2).toNat) % m = (p * s ^ e.toNat) % m := by
  have : e.toNat = 2 * (e / 2).toNat := by omega
  rw [this, ← mul_emod_r, pow_emod, mul_emod_r, sq_pow]
theorem sqr_odd (p s m e : Int) (he : 0 ≤ e) (h : e % 2 = 1) : (((p * s) % m) * ((s * s) % m) ^ (e / 2).toNat) % m = (p * s ^ e.toNat) % m := by
  have : e.toNat = 2 * (e / 2).toNat + 1 := by omega
  rw [this, ← mul_emod_r, pow_emod, mul_emod_r, sq_pow, mul_emod_l, Int.pow_succ, Int.mul_assoc, Int.mul_comm s]

/-! the digit of a long division -/
theorem digit_le {U u Y q r y1 y0 B : Int} (hY : Y = y1 * B + y0) (hU : q * y1 + r = U) : q * Y - (U * B + u) = q * y0 - (r * B + u) := by
  subst hY; subst hU
  rw [Int.mul_add, Int.add_mul, ← Int.mul_assoc]; omega
/-- the digit that is too great -/
theorem digit_big {U u Y q r y1 y0 B : Int} (hY : Y = y1 * B + y0) (hU : q * y1 + r = U) (h0 : 0 < Y) (h : r * B + u < q * y0) : (U * B + u) / Y < q := by
  have e := digit_le (u := u) hY hU
  exact Int.ediv_lt_of_lt_mul h0 (by omega)
theorem digit_ge {U u Y q r y1 y0 B : Int} (hY : Y = y1 * B + y0) (hU : q * y1 + r = U) (h0 : 0 < Y) (h : q * y0 ≤ r * B + u) : q ≤ (U * B + u) / Y := by
  have e := digit_le (u := u) hY hU
  exact (Int.le_ediv_iff_mul_le h0).2 (by omega)
/-- no digit is as great as the base -/
theorem digit_base {U u Y B : Int} (hB : 0 < B) (hu : u < B) (hU : U < Y) (h0 : 0 < Y) : (U * B + u) / Y < B := by
  refine Int.ediv_lt_of_lt_mul h0 ?_
  have : U * B + B ≤ Y * B := by
    have := Int.mul_le_mul_of_nonneg_right (show U + 1 ≤ Y by omega) (Int.le_of_lt hB)
    rw [Int.add_mul] at this; omega
  rw [Int.mul_comm B Y]; omega
/-- the first guess is at most two too great -/
theorem digit_guess {U Y y1 y0 B : Int} (hY : Y = y1 * B + y0) (hU : U < Y) (h1 : B ≤ 2 * y1) (h2 : y0 < B) (h3 : 0 < y1) : U / y1 ≤ B + 1 := by
  have : U / y1 < B + 2 := by
    refine Int.ediv_lt_of_lt_mul h3 ?_
    rw [Int.add_mul, Int.mul_comm B]; omega
  omega
/-- a digit whose rest is as great as the base is not too great -/
theorem digit_break {U u Y q r y1 y0 B : Int} (hY : Y = y1 * B + y0) (hU : q * y1 + r = U) (h0 : 0 < Y) (hB : 0 < B) (hu : 0 ≤ u) (hy0 : 0 ≤ y0) (hy : y0 < B) (hq : q ≤ B) (hr : B ≤ r) : q ≤ (U * B + u) / Y := by
  refine digit_ge hY hU h0 ?_
  have a : q * y0 ≤ B * y0 := Int.mul_le_mul_of_nonneg_right hq hy0
  have b : B * y0 ≤ B * B := Int.mul_le_mul_of_nonneg_left (by omega) (by omega)
  have c : B * B ≤ r * B := Int.mul_le_mul_of_nonneg_right hr (by omega)
  omega

/-- the digit's loop: the guess is no digit too small, and at most one above the base; the rest is below the base -/
structure DigInv (B Y U u y1 q r : Int) : Prop where
  lo : (U * B + u) / Y ≤ q
  hi : q ≤ B + 1
  eq : q * y1 + r = U
  r0 : 0 ≤ r
  r1 : r < B
/-- what a long division by two digits starts from -/
structure DigBase (B Y U u y1 y0 : Int) : Prop where
  hY : Y = y1 * B + y0
  hB : 0 < B
  a0 : 0 ≤ y0
  a1 : y0 < B
  b0 : B ≤ 2 * y1
  b1 : y1 < B
  U0 : 0 ≤ U
  U1 : U < Y
  u0 : 0 ≤ u
  u1 : u < B
theorem DigBase.y1pos {B Y U u y1 y0 : Int} (h : DigBase B Y U u y1 y0) : 0 < y1 := by have := h.b0; have := h.hB; omega
theorem DigBase.Ypos {B Y U u y1 y0 : Int} (h : DigBase B Y U u y1 y0) : 0 < Y := by
  have := h.U0; have := h.U1; omega
theorem DigBase.dig0 {B Y U u y1 y0 : Int} (h : DigBase B Y U u y1 y0) : 0 ≤ (U * B + u) / Y := by
  have hp := h.Ypos
  have := Int.mul_nonneg h.U0 (Int.le_of_lt h.hB)
  have := h.u0
  exact Int.ediv_nonneg (by omega) (by omega)
theorem DigBase.digB {B Y U u y1 y0 : Int} (h : DigBase B Y U u y1 y0) : (U * B + u) / Y < B := digit_base h.hB h.u1 h.U1 h.Ypos
theorem DigInv.start {B Y U u y1 y0 : Int} (h : DigBase B Y U u y1 y0) : DigInv B Y U u y1 (U / y1) (U - U / y1 * y1) := by
  have hp := h.y1pos
  have e := Int.mul_ediv_add_emod U y1
  have e2 : U / y1 * y1 = y1 * (U / y1) := Int.mul_comm _ _
  have r0 := Int.emod_nonneg U (by omega : y1 ≠ 0)
  have r1 := Int.emod_lt_of_pos U hp
  have b1 := h.b1
  refine ⟨?_, digit_guess h.hY h.U1 h.b0 h.a1 hp, by omega, by omega, by omega⟩
  -- U*B+u < (U/y1 + 1)*Y
  have hlt : (U * B + u) / Y < U / y1 + 1 := by
    refine Int.ediv_lt_of_lt_mul h.Ypos ?_
    have hU : U + 1 ≤ (U / y1 + 1) * y1 := by rw [Int.add_mul]; omega
    have h2 := Int.mul_le_mul_of_nonneg_right hU (Int.le_of_lt h.hB)
    have h3 : (U / y1 + 1) * Y = (U / y1 + 1) * y1 * B + (U / y1 + 1) * y0 := by rw [h.hY, Int.mul_add, Int.mul_assoc]
    have h4 : 0 ≤ (U / y1 + 1) * y0 := Int.mul_nonneg (by have := Int.ediv_nonneg h.U0 (Int.le_of_lt hp); omega) h.a0
    have h5 : (U + 1) * B = U * B + B := by rw [Int.add_mul, Int.one_mul]
    have := h.u1
    omega
  omega
/-- the test says yes: the guess is too great -/
theorem DigInv.big {B Y U u y1 y0 q r : Int} (h : DigInv B Y U u y1 q r) (b : DigBase B Y U u y1 y0) (ht : B ≤ q ∨ r * B + u < q * y0) : (U * B + u) / Y ≤ q - 1 := by
  have := b.digB
  rcases ht with ht | ht
  · omega
  · have := digit_big b.hY h.eq b.Ypos ht; omega
theorem DigInv.next {B Y U u y1 y0 q r : Int} (h : DigInv B Y U u y1 q r) (b : DigBase B Y U u y1 y0) (ht : B ≤ q ∨ r * B + u < q * y0) (hr : r + y1 < B) : DigInv B Y U u y1 (q - 1) (r + y1) := by
  have := h.big b ht
  have := h.hi; have := h.r0; have := b.y1pos
  have e := h.eq
  refine ⟨by omega, by omega, ?_, by omega, hr⟩
  rw [Int.sub_mul, Int.one_mul]; omega
theorem DigInv.brk {B Y U u y1 y0 q r : Int} (h : DigInv B Y U u y1 q r) (b : DigBase B Y U u y1 y0) (ht : B ≤ q ∨ r * B + u < q * y0) (hr : B ≤ r + y1) : q - 1 = (U * B + u) / Y := by
  have h1 := h.big b ht
  have h2 := h.hi
  have e := h.eq
  have h3 : q - 1 ≤ (U * B + u) / Y := digit_break b.hY (by rw [Int.sub_mul, Int.one_mul]; omega : (q - 1) * y1 + (r + y1) = U) b.Ypos b.hB b.u0 b.a0 b.a1 (by omega) hr
  omega
theorem DigInv.fin {B Y U u y1 y0 q r : Int} (h : DigInv B Y U u y1 q r) (b : DigBase B Y U u y1 y0) (ht : ¬ (r * B + u < q * y0)) : q = (U * B + u) / Y := by
  have h1 := h.lo
  have h3 := digit_ge (u := u) b.hY h.eq b.Ypos (by omega)
  omega
/-- a digit off: the rest stands for the next one -/
theorem digit_rest {U u Y B : Int} : U * B + u - (U * B + u) / Y * Y = (U * B + u) % Y := by
  have := Int.mul_ediv_add_emod (U * B + u) Y
  rw [Int.mul_comm] at this; omega
/-- two digits make the quotient, and the last rest is the rest of all -/
theorem two_digits {U u1 u0 Y B : Int} (h : 0 < Y) : ((U * B + u1) * B + u0) / Y = (U * B + u1) / Y * B + ((U * B + u1) % Y * B + u0) / Y ∧ ((U * B + u1) * B + u0) % Y = ((U * B + u1) % Y * B + u0) % Y := by
  have e : (U * B + u1) * B + u0 = ((U * B + u1) % Y * B + u0) + Y * ((U * B + u1) / Y * B) := by
    have := Int.mul_ediv_add_emod (U * B + u1) Y
    generalize (U * B + u1) / Y = d at *
    generalize (U * B + u1) % Y = r at *
    rw [← this, Int.add_mul, Int.mul_assoc]; omega
  constructor
  · rw [e, Int.add_mul_ediv_left _ _ (by omega)]; omega
  · rw [e, Int.add_mul_emod_self_left]
/-- what is shifted is divided as what is not -/
theorem scaled {N y p : Int} (hp : 0 < p) : N * p / (y * p) = N / y ∧ N * p % (y * p) = N % y * p :=
  ⟨Int.mul_ediv_mul_of_pos_left N y hp, by rw [Int.mul_comm N, Int.mul_comm y, Int.mul_emod_mul_of_pos _ _ hp, Int.mul_comm]⟩

/-! Euclid's pairs, and a factor beside each -/
structure EuInv (x y p0 p1 f0 f1 : Int) : Prop where
  a0 : 0 ≤ p0
  a1 : 0 ≤ p1
  g : Int.gcd p0 p1 = Int.gcd x y
  c0 : ∃ k, p0 = f0 * y + k * x
  c1 : ∃ k, p1 = f1 * y + k * x
  m : (0 ≤ f1 ∧ f0 ≤ 0 ∧ f1 * p0 - f0 * p1 = x) ∨ (f1 ≤ 0 ∧ 0 ≤ f0 ∧ f0 * p1 - f1 * p0 = x)
  b0 : -9223372036854775807 ≤ f0 ∧ f0 ≤ 9223372036854775807
  b1 : -9223372036854775807 ≤ f1 ∧ f1 ≤ 9223372036854775807
theorem EuInv.start {x y : Int} (hx : 0 ≤ x) (hy : 0 ≤ y) : EuInv x y x y 0 1 :=
  ⟨hx, hy, rfl, ⟨1, by omega⟩, ⟨0, by omega⟩, Or.inl ⟨by omega, by omega, by omega⟩, by omega, by omega⟩
/-- what a round reckons -/
structure EuStep (x y p0 p1 f0 f1 : Int) : Prop where
  q0 : 0 ≤ p0 / p1
  q1 : p0 / p1 ≤ p0
  m0 : 0 ≤ p0 / p1 * p1
  m1 : p0 / p1 * p1 ≤ p0
  r0 : 0 ≤ p0 - p0 / p1 * p1
  r1 : p0 - p0 / p1 * p1 < p1
  n0 : -9223372036854775807 ≤ p0 / p1 * f1 ∧ p0 / p1 * f1 ≤ 9223372036854775807
  n1 : -9223372036854775807 ≤ f0 - p0 / p1 * f1 ∧ f0 - p0 / p1 * f1 ≤ 9223372036854775807
  next : EuInv x y p1 (p0 - p0 / p1 * p1) f1 (f0 - p0 / p1 * f1)
theorem EuInv.step {x y p0 p1 f0 f1 : Int} (h : EuInv x y p0 p1 f0 f1) (hx : x ≤ 9223372036854775807) (hp : 0 < p1) : EuStep x y p0 p1 f0 f1 := by
  obtain ⟨a0, a1, g, ⟨k0, c0⟩, ⟨k1, c1⟩, m, b0, b1⟩ := h
  have q0 : 0 ≤ p0 / p1 := Int.ediv_nonneg a0 a1
  have q1 : p0 / p1 ≤ p0 := Int.ediv_le_self _ a0
  have e := Int.mul_ediv_add_emod p0 p1
  have r0 := Int.emod_nonneg p0 (by omega : p1 ≠ 0)
  have r1 := Int.emod_lt_of_pos p0 hp
  rw [Int.mul_comm] at e
  generalize hq : p0 / p1 = q at *
  have m0 : 0 ≤ q * p1 := Int.mul_nonneg q0 a1
  have gg : Int.gcd p1 (p0 - q * p1) = Int.gcd x y := by rw [Int.gcd_sub_mul_right_right, Int.gcd_comm, g]
  -- the factors' lengths
  have mm : (0 ≤ f0 - q * f1 ∧ f1 ≤ 0 ∧ (f0 - q * f1) * p1 - f1 * (p0 - q * p1) = x) ∨ (f0 - q * f1 ≤ 0 ∧ 0 ≤ f1 ∧ f1 * (p0 - q * p1) - (f0 - q * f1) * p1 = x) := by
    have z1 : (f0 - q * f1) * p1 = f0 * p1 - q * f1 * p1 := Int.sub_mul _ _ _
    have z2 : f1 * (p0 - q * p1) = f1 * p0 - q * f1 * p1 := by rw [Int.mul_sub, ← Int.mul_assoc, Int.mul_comm f1 q]
    rcases m with ⟨u, v, w⟩ | ⟨u, v, w⟩
    · have := Int.mul_nonneg q0 u
      right; exact ⟨by omega, u, by omega⟩
    · have : q * f1 ≤ 0 := Int.mul_nonpos_of_nonneg_of_nonpos q0 u
      left; exact ⟨by omega, u, by omega⟩
  have bb : -9223372036854775807 ≤ f0 - q * f1 ∧ f0 - q * f1 ≤ 9223372036854775807 := by
    rcases mm with ⟨u, v, w⟩ | ⟨u, v, w⟩
    · have t1 : f1 * (p0 - q * p1) ≤ 0 := Int.mul_nonpos_of_nonpos_of_nonneg v (by omega)
      have t2 : (f0 - q * f1) * 1 ≤ (f0 - q * f1) * p1 := Int.mul_le_mul_of_nonneg_left (by omega) u
      omega
    · have t1 : 0 ≤ f1 * (p0 - q * p1) := Int.mul_nonneg v (by omega)
      have t2 : (f0 - q * f1) * p1 ≤ (f0 - q * f1) * 1 := Int.mul_le_mul_of_nonpos_left u (by omega)
      omega
  have nn : -9223372036854775807 ≤ q * f1 ∧ q * f1 ≤ 9223372036854775807 := by
    rcases m with ⟨u, v, w⟩ | ⟨u, v, w⟩
    · have := Int.mul_nonneg q0 u; omega
    · have : q * f1 ≤ 0 := Int.mul_nonpos_of_nonneg_of_nonpos q0 u
      omega
  refine ⟨by rw [hq]; omega, by rw [hq]; omega, by rw [hq]; omega, by rw [hq]; omega, by rw [hq]; omega, by rw [hq]; omega, by rw [hq]; exact nn, by rw [hq]; exact bb, ?_⟩
  rw [hq]
  refine ⟨a1, by omega, gg, ⟨k1, c1⟩, ⟨k0 - q * k1, ?_⟩, ?_, b1, bb⟩
  · rw [Int.sub_mul, Int.sub_mul]
    have z1 : q * p1 = q * f1 * y + q * k1 * x := by
      have := congrArg (fun z => q * z) c1
      simp only [Int.mul_add] at this
      rw [Int.mul_assoc, Int.mul_assoc]; exact this
    omega
  · rcases mm with ⟨u, v, w⟩ | ⟨u, v, w⟩
    · exact Or.inl ⟨u, v, w⟩
    · exact Or.inr ⟨u, v, w⟩
theorem EuInv.gcd {x y p0 f0 f1 : Int} (h : EuInv x y p0 0 f0 f1) : p0 = (Int.gcd x y : Int) := by
  rw [← h.g, Int.gcd_zero_right]
  have := h.a0; omega

/-! the greatest common divisor by remainders -/
theorem gcd_step_r {a b : Int} : Int.gcd a (b % a) = Int.gcd a b := by
  rw [Int.emod_def, Int.gcd_sub_mul_left_right]
theorem gcd_step_l {a b : Int} : Int.gcd (a % b) b = Int.gcd a b := by
  rw [Int.gcd_comm, gcd_step_r, Int.gcd_comm]
theorem gcd_end_l {b : Int} (hb : 0 ≤ b) : (Int.gcd 0 b : Int) = b := by rw [Int.gcd_zero_left]; omega
theorem gcd_end_r {a : Int} (ha : 0 ≤ a) : (Int.gcd a 0 : Int) = a := by rw [Int.gcd_zero_right]; omega

/-- an inverse out of Euclid's factor -/
theorem inv_of {a m f k : Int} (h : 1 = f * (a % m) + k * m) : (a * (f % m)) % m = 1 % m := by
  rw [mul_emod_r, ← mul_emod_l, Int.mul_comm]
  have : f * (a % m) = 1 + m * (-k) := by rw [Int.mul_neg, Int.mul_comm m]; omega
  rw [this, Int.add_mul_emod_self_left]

/-! the least common multiple -/
theorem lcm_part {a b : Int} : a / (Int.gcd a b : Int) * b = a * (b / (Int.gcd a b : Int)) := by
  by_cases h : (Int.gcd a b : Int) = 0
  · rw [h]; simp
  · have ha := Int.gcd_dvd_left a b
    have hb := Int.gcd_dvd_right a b
    rw [← Int.mul_ediv_assoc _ hb, Int.mul_comm, ← Int.mul_ediv_assoc _ ha, Int.mul_comm b a]
theorem gcd_le {a b : Int} (ha : 1 ≤ a) : 1 ≤ (Int.gcd a b : Int) ∧ (Int.gcd a b : Int) ≤ a := by
  have h0 : Int.gcd a b ≠ 0 := fun h => by have := (Int.gcd_eq_zero_iff.1 h).1; omega
  exact ⟨by omega, Int.le_of_dvd (by omega) (Int.gcd_dvd_left a b)⟩
theorem part_bd {a b : Int} (ha : 1 ≤ a) : 1 ≤ a / (Int.gcd a b : Int) ∧ a / (Int.gcd a b : Int) ≤ a := by
  have h := gcd_le (b := b) ha
  exact ⟨(Int.le_ediv_iff_mul_le (by omega)).2 (by omega), Int.ediv_le_self _ (by omega)⟩
theorem tdiv_neg_bd {m b : Int} (hm : m < 0) (hb : 1 ≤ b) : m ≤ m.tdiv b ∧ m.tdiv b ≤ 0 := by
  obtain ⟨n, rfl⟩ : ∃ n, m = -n := ⟨-m, by omega⟩
  rw [Int.neg_tdiv, Int.tdiv_eq_ediv_of_nonneg (by omega)]
  have h1 : n / b ≤ n := Int.ediv_le_self _ (by omega)
  have h2 : 0 ≤ n / b := Int.ediv_nonneg (by omega) (by omega)
  omega
theorem gt_div {p b most : Int} (hb : 1 ≤ b) : most / b < p ↔ most < p * b := Int.ediv_lt_iff_lt_mul (by omega)

end Dia
