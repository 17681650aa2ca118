/- Layer 1's calls answer what the chapter says: products, powers, greatest common divisors, inverses, least common multiples. -/
import Derived.Test.YtjbhpgcibhgmbaaDiv
namespace Go.Proofs.Ytjbhpgcibhgmbaa
open Go.RowKit

/-- math/bits.Mul64, on whole numbers -/
theorem mul64_any (x y : Int) (w : World) (x0 : 0 ≤ x) (x1 : x ≤ 18446744073709551615) (y0 : 0 ≤ y) (y1 : y ≤ 18446744073709551615) :
    Calls Try.prog 24 #[.int .u64 x, .int .u64 y] w fun e w' => e = .returned (.tuple #[.int .u64 (x * y / 18446744073709551616), .int .u64 (x * y % 18446744073709551616)]) ∧ w = w' := by
  obtain ⟨x, rfl⟩ := Int.eq_ofNat_of_zero_le x0
  obtain ⟨y, rfl⟩ := Int.eq_ofNat_of_zero_le y0
  refine (Try.bits_Mul64 x y (by omega) (by omega) w).mono fun e w' ⟨he, hw⟩ => ⟨?_, hw.symm⟩
  rw [he]
  exact ret_u64u64 (by simp) (by simp)

/-- mod.Mul: the document's product. -/
theorem mul_any (a b m : Int) (w : World) :
    Calls Try.prog 15 #[.int .i64 a, .int .i64 b, .int .i64 m] w fun e w' => e = .returned (.int .i64 (mulS a b m)) ∧ Grown w w' := by
  by_cases hm : 1 ≤ m ∧ m ≤ 4611686018427387904
  · obtain ⟨h1, h2⟩ := hm
    rw [mulS_yes h1 h2]
    have x0 := Int.emod_nonneg a (by omega : m ≠ 0)
    have x1 := Int.emod_lt_of_pos a (by omega : 0 < m)
    have y0 := Int.emod_nonneg b (by omega : m ≠ 0)
    have y1 := Int.emod_lt_of_pos b (by omega : 0 < m)
    have hab : (a * b) % m = ((a % m) * (b % m)) % m := by rw [Dia.mul_emod_l, Dia.mul_emod_r]
    obtain ⟨x, hx⟩ : ∃ x, a % m = x := ⟨_, rfl⟩
    obtain ⟨y, hy⟩ : ∃ y, b % m = y := ⟨_, rfl⟩
    rw [hx, hy] at hab
    rw [hx] at x0 x1
    rw [hy] at y0 y1
    have z0 := Int.emod_nonneg (a * b) (by omega : m ≠ 0)
    have z1 := Int.emod_lt_of_pos (a * b) (by omega : 0 < m)
    obtain ⟨Z, hZ⟩ : ∃ Z, (a * b) % m = Z := ⟨_, rfl⟩
    rw [hZ] at hab z0 z1 ⊢
    have p0 : 0 ≤ x * y := Int.mul_nonneg x0 y0
    have p1 : x * y ≤ 340282366920938463463374607431768211455 := by
      have a1 : x * y ≤ 4611686018427387904 * y := Int.mul_le_mul_of_nonneg_right (by omega) y0
      omega
    have hq : (x * y / 18446744073709551616 * 18446744073709551616 + x * y % 18446744073709551616) % m = Z := by
      rw [hab]
      generalize x * y = t
      have : t / 18446744073709551616 * 18446744073709551616 + t % 18446744073709551616 = t := by omega
      rw [this]
    have HQ := Lib.hid hq; clear hq hZ hab
    have HX := Lib.hid hx; clear hx
    have HY := Lib.hid hy; clear hy
    go_enter Try.func15, Try.ntmps15
    go_wp2_with fail
    refine (isModulus_yes m _ h1 h2).mono ?_; rintro e w1 ⟨rfl, rfl⟩
    go_wp2_with fail
    refine (remainder_any a m _ h1 h2).mono ?_; rintro e w1 ⟨rfl, rfl⟩
    rw [HX.out]
    go_wp2_with fail
    refine (remainder_any b m _ h1 h2).mono ?_; rintro e w1 ⟨rfl, rfl⟩
    rw [HY.out]
    go_wp2_with fail
    refine (mul64_any x y _ x0 (by omega) y0 (by omega)).mono ?_; rintro e w1 ⟨rfl, rfl⟩
    go_wp2_with fail
    refine (rem_any _ _ m _ ?_ ?_ ?_ ?_ ?_ ?_).mono ?_
    case refine_7 =>
      rintro e w1 ⟨rfl, hg⟩
      rw [HQ.out]
      go_wp2
      go_ret
      exact ⟨rfl, hg⟩
    all_goals omega
  · rw [mulS_no (by omega)]
    go_enter Try.func15, Try.ntmps15
    go_wp2_with fail
    refine (isModulus_no m _ (by omega)).mono ?_; rintro e w1 ⟨rfl, rfl⟩
    go_wp2
    go_ret
    exact ⟨rfl, Grown.refl _⟩

/-- the document's power -/
def powS (a e m : Int) : Int := if 1 ≤ m ∧ m ≤ 4611686018427387904 ∧ 0 ≤ e then (a ^ e.toNat) % m else -1
theorem powS_yes {a e m : Int} (h1 : 1 ≤ m) (h2 : m ≤ 4611686018427387904) (h3 : 0 ≤ e) : powS a e m = (a ^ e.toNat) % m := if_pos ⟨h1, h2, h3⟩
theorem powS_no {a e m : Int} (h : m < 1 ∨ 4611686018427387904 < m ∨ e < 0) : powS a e m = -1 := if_neg (by omega)

structure PowInv (a e m p s e' : Int) : Prop where
  p0 : 0 ≤ p
  p1 : p < m
  e0 : 0 ≤ e'
  e1 : e' ≤ e
  eq : (p * s ^ e'.toNat) % m = (a ^ e.toNat) % m
theorem PowInv.start {a e m : Int} (h1 : 1 ≤ m) (h3 : 0 ≤ e) : PowInv a e m (1 % m) a e :=
  ⟨Int.emod_nonneg _ (by omega), Int.emod_lt_of_pos _ (by omega), h3, by omega, by rw [Dia.mul_emod_l, Int.one_mul]⟩
theorem PowInv.start' {a e m : Int} (h1 : 1 ≤ m) (h3 : 0 ≤ e) : PowInv a e m (1 % m) (a % m) e :=
  ⟨Int.emod_nonneg _ (by omega), Int.emod_lt_of_pos _ (by omega), h3, by omega, by rw [Dia.mul_emod_l, Int.one_mul, Dia.pow_emod]⟩
theorem PowInv.odd {a e m p s e' : Int} (h : PowInv a e m p s e') (h1 : 1 ≤ m) (h2 : e' % 2 = 1) : PowInv a e m ((p * s) % m) ((s * s) % m) (e' / 2) := by
  have e0 := h.e0
  have e1 := h.e1
  exact ⟨Int.emod_nonneg _ (by omega), Int.emod_lt_of_pos _ (by omega), by omega, by omega, by rw [Dia.sqr_odd _ _ _ _ e0 h2, h.eq]⟩
theorem PowInv.even {a e m p s e' : Int} (h : PowInv a e m p s e') (h2 : e' % 2 = 0) : PowInv a e m p ((s * s) % m) (e' / 2) := by
  have e0 := h.e0
  have e1 := h.e1
  exact ⟨h.p0, h.p1, by omega, by omega, by rw [Dia.sqr_even _ _ _ _ e0 h2, h.eq]⟩
theorem PowInv.done {a e m p s e' : Int} (h : PowInv a e m p s e') (hp : ¬ 0 < e') : p = (a ^ e.toNat) % m := by
  have e0 := h.e0
  have : e' = 0 := by omega
  rw [← h.eq, this]
  simp [Int.emod_eq_of_lt h.p0 h.p1]

theorem and_one_i64 (e : Int) (h0 : 0 ≤ e) (h1 : e ≤ 9223372036854775807) : bits .and .i64 e 1 = e % 2 := by
  obtain ⟨n, rfl⟩ := Int.eq_ofNat_of_zero_le h0
  have h2 : (BitVec.ofInt 64 (n : Int)).toNat = n := by
    rw [BitVec.ofInt_natCast, BitVec.toNat_ofNat]; exact Nat.mod_eq_of_lt (by omega)
  show IntKind.i64.wrap ((BitVec.ofInt 64 (n : Int) &&& BitVec.ofInt 64 1).toNat : Int) = _
  rw [BitVec.toNat_and, h2]
  have h3 : (BitVec.ofInt 64 1).toNat = 1 := by decide
  rw [h3, Nat.and_one_is_mod, IntKind.wrap_i64]
  omega

theorem pow_any (a e m : Int) (w : World) (he1 : e ≤ 9223372036854775807) :
    Calls Try.prog 17 #[.int .i64 a, .int .i64 e, .int .i64 m] w fun r w' => r = .returned (.int .i64 (powS a e m)) ∧ Grown w w' := by
  by_cases hm : 1 ≤ m ∧ m ≤ 4611686018427387904
  · obtain ⟨h1, h2⟩ := hm
    by_cases h3 : 0 ≤ e
    · rw [powS_yes h1 h2 h3]
      have hS := PowInv.start (a := a) h1 h3
      have h3' : ¬ e < 0 := by omega
      go_enter Try.func17, Try.ntmps17
      go_wp2_with fail
      refine (isModulus_yes m _ h1 h2).mono ?_; rintro r w1 ⟨rfl, rfl⟩
      go_wp2_with fail
      refine (remainder_any 1 m _ h1 h2).mono ?_; rintro r w1 ⟨rfl, rfl⟩
      go_wp2_with fail
      go_loopw [1, 7, 8] (fun x y z wr => ∃ e' p s : Int, PowInv a e m p s e' ∧ x = .int .i64 e' ∧ y = .int .i64 p ∧ z = .int .i64 s ∧ Grown w wr) (fun x _ _ _ => (intOf x).toNat)
      case atStart => exact ⟨_, _, _, hS, rfl, rfl, rfl, Grown.refl _⟩
      case round =>
        obtain ⟨e', p, s, hI, rfl, rfl, rfl, hg⟩ := hrel
        have i0 := hI.e0
        have i1 : e' ≤ 9223372036854775807 := Int.le_trans hI.e1 he1
        by_cases hp : 0 < e'
        · have ha := and_one_i64 e' i0 i1
          by_cases hb : e' % 2 = 1
          · have hN := hI.odd h1 hb
            rw [← mulS_yes h1 h2, ← mulS_yes h1 h2] at hN
            have t2 : (bits .and .i64 e' 1 == 1) = true := by rw [ha, hb]; rfl
            clear ha hb
            go_wp2_with fail
            refine (mul_any p s m _).mono ?_; rintro r w1 ⟨rfl, hg1⟩
            go_wp2_with fail
            refine (mul_any s s m _).mono ?_; rintro r w2 ⟨rfl, hg2⟩
            go_wp2
            go_roundw
            case rel => exact ⟨_, _, _, hN, rfl, rfl, rfl, (hg.trans hg1).trans hg2⟩
            case measure => simp [intOf]; omega
          · have hN := hI.even (by omega)
            rw [← mulS_yes h1 h2] at hN
            have t2 : (bits .and .i64 e' 1 == 1) = false := by rw [ha, beq_eq_false_iff_ne]; exact hb
            clear ha hb
            go_wp2_with fail
            refine (mul_any s s m _).mono ?_; rintro r w2 ⟨rfl, hg2⟩
            go_wp2
            go_roundw
            case rel => exact ⟨_, _, _, hN, rfl, rfl, rfl, hg.trans hg2⟩
            case measure => simp [intOf]; omega
        · have hd := hI.done hp
          have E := Lib.hid hd; clear hd
          go_wp2
          go_ret
          exact ⟨ret_i64 E.out, hg⟩
    · rw [powS_no (by omega)]
      have h3' : e < 0 := by omega
      go_enter Try.func17, Try.ntmps17
      go_wp2_with fail
      refine (isModulus_yes m _ h1 h2).mono ?_; rintro r w1 ⟨rfl, rfl⟩
      go_wp2
      go_ret
      exact ⟨rfl, Grown.refl _⟩
  · rw [powS_no (by omega)]
    go_enter Try.func17, Try.ntmps17
    go_wp2_with fail
    refine (isModulus_no m _ (by omega)).mono ?_; rintro r w1 ⟨rfl, rfl⟩
    go_wp2
    go_ret
    exact ⟨rfl, Grown.refl _⟩

end Go.Proofs.Ytjbhpgcibhgmbaa
