/- mod.Mul is the document's product. -/
import Derived.Test.YtcglffigbdglpaaDoorSpec1
import Derived.Test.YtcglffigbdglpaaDoorRem
import Derived.Test.YtcglffigbdglpaaDoorDiv
namespace Go.Proofs.YtcglffigbdglpaaDoor
open Go.RowKit

/-- math/bits.Mul64, on whole numbers -/
theorem mul64_any (x y : Int) (w : World) (x0 : 0 ≤ x) (x1 : x ≤ 18446744073709551615) (y0 : 0 ≤ y) (y1 : y ≤ 18446744073709551615) :
    Calls Tryd.prog 34 #[.int .u64 x, .int .u64 y] w fun e w' => e = .returned (.tuple #[.int .u64 (x * y / 18446744073709551616), .int .u64 (x * y % 18446744073709551616)]) ∧ w = w' := by
  obtain ⟨x, rfl⟩ := Int.eq_ofNat_of_zero_le x0
  obtain ⟨y, rfl⟩ := Int.eq_ofNat_of_zero_le y0
  refine (Tryd.bits_Mul64 x y (by omega) (by omega) w).mono fun e w' ⟨he, hw⟩ => ⟨?_, hw.symm⟩
  rw [he]
  exact ret_u64u64 (by simp) (by simp)

/-- mod.Mul: the document's product. -/
theorem mul_dr (a b m : Int) (w : World) :
    Calls Tryd.prog 27 #[.int .i64 a, .int .i64 b, .int .i64 m] w fun e w' => e = .returned (.int .i64 (mulS a b m)) ∧ Dr w w' := by
  by_cases hm : 1 ≤ m ∧ m ≤ 4611686018427387904
  · obtain ⟨h1, h2⟩ := hm
    rw [mulS_yes h1 h2]
    have x0 := Int.emod_nonneg a (by omega : m ≠ 0)
    have x1 := Int.emod_lt_of_pos a (by omega : 0 < m)
    have y0 := Int.emod_nonneg b (by omega : m ≠ 0)
    have y1 := Int.emod_lt_of_pos b (by omega : 0 < m)
    have hab : (a * b) % m = ((a % m) * (b % m)) % m := by rw [Dia.mul_emod_l, Dia.mul_emod_r]
    obtain ⟨x, hx⟩ : ∃ x, a % m = x := ⟨_, rfl⟩
    obtain ⟨y, hy⟩ : ∃ y, b % m = y := ⟨_, rfl⟩
    rw [hx, hy] at hab
    rw [hx] at x0 x1
    rw [hy] at y0 y1
    have z0 := Int.emod_nonneg (a * b) (by omega : m ≠ 0)
    have z1 := Int.emod_lt_of_pos (a * b) (by omega : 0 < m)
    obtain ⟨Z, hZ⟩ : ∃ Z, (a * b) % m = Z := ⟨_, rfl⟩
    rw [hZ] at hab z0 z1 ⊢
    have p0 : 0 ≤ x * y := Int.mul_nonneg x0 y0
    have p1 : x * y ≤ 340282366920938463463374607431768211455 := by
      have a1 : x * y ≤ 4611686018427387904 * y := Int.mul_le_mul_of_nonneg_right (by omega) y0
      omega
    have hq : (x * y / 18446744073709551616 * 18446744073709551616 + x * y % 18446744073709551616) % m = Z := by
      rw [hab]
      generalize x * y = t
      have : t / 18446744073709551616 * 18446744073709551616 + t % 18446744073709551616 = t := by omega
      rw [this]
    have HQ := Lib.hid hq; clear hq hZ hab
    have HX := Lib.hid hx; clear hx
    have HY := Lib.hid hy; clear hy
    go_enter Tryd.func27, Tryd.ntmps27
    go_wp2_with fail
    refine (isModulus_yes m _ h1 h2).mono ?_; rintro e w1 ⟨rfl, rfl⟩
    go_wp2_with fail
    refine (remainder_any a m _ h1 h2).mono ?_; rintro e w1 ⟨rfl, rfl⟩
    rw [HX.out]
    go_wp2_with fail
    refine (remainder_any b m _ h1 h2).mono ?_; rintro e w1 ⟨rfl, rfl⟩
    rw [HY.out]
    go_wp2_with fail
    refine (mul64_any x y _ x0 (by omega) y0 (by omega)).mono ?_; rintro e w1 ⟨rfl, rfl⟩
    go_wp2_with fail
    refine (rem_any _ _ m _ ?_ ?_ ?_ ?_ ?_ ?_).mono ?_
    case refine_7 =>
      rintro e w1 ⟨rfl, hg⟩
      rw [HQ.out]
      go_wp2
      go_ret
      exact ⟨rfl, hg⟩
    all_goals omega
  · rw [mulS_no (by omega)]
    go_enter Tryd.func27, Tryd.ntmps27
    go_wp2_with fail
    refine (isModulus_no m _ (by omega)).mono ?_; rintro e w1 ⟨rfl, rfl⟩
    go_wp2
    go_ret
    exact ⟨rfl, Dr.refl _⟩

theorem mul_any (a b m : Int) (w : World) :
    Calls Tryd.prog 27 #[.int .i64 a, .int .i64 b, .int .i64 m] w fun e w' => e = .returned (.int .i64 (mulS a b m)) ∧ Bel w w' :=
  (mul_dr a b m w).mono fun _ _ ⟨h, g⟩ => ⟨h, g.bel⟩

end Go.Proofs.YtcglffigbdglpaaDoor
