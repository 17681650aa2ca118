/- What layer 1's statements share: the remainders that the document fixes, and when there is an inverse. -/
import Derived.Test.YtjbhpgcibhgmbaaMod2
namespace Go.Proofs.Ytjbhpgcibhgmbaa
open Go.RowKit

theorem k_gcd : gcdS 12 18 = 6 := by decide +kernel
theorem k_mul : mulS (-1) 3 7 = 4 := by decide +kernel
theorem k_pow : powS 3 4 7 = 4 := by decide +kernel
theorem k_lcm : lcmB 4 6 11 = false := by decide +kernel
theorem k_inv : (Int.gcd 7 (3 % 7) : Int) = 1 := by decide +kernel

theorem wakes_any (w : World) :
    Calls Try.prog 11 #[] w fun e w' => e = .returned (.bool true) ∧ Grown w w' := by
  go_enter Try.func11, Try.ntmps11
  go_wp2_with fail
  refine (inv_yes 3 7 _ (by omega) (by omega) k_inv).mono ?_; rintro e w1 ⟨⟨b, rfl, b0, b1, hb⟩, g1⟩
  obtain rfl : b = 5 := by omega
  clear b0 b1 hb
  go_wp2_with fail
  refine (lcm_any 4 6 11 _ (by omega) (by omega) (by omega) (by omega)).mono ?_; rintro e w2 ⟨rfl, g2⟩
  rw [k_lcm]
  go_wp2_with fail
  refine (gcd_any 12 18 _ (by omega) (by omega)).mono ?_; rintro e w3 ⟨rfl, g3⟩
  rw [k_gcd]
  go_wp2_with fail
  refine (mul_any (-1) 3 7 _).mono ?_; rintro e w4 ⟨rfl, g4⟩
  rw [k_mul]
  go_wp2_with fail
  refine (pow_any 3 4 7 _ (by omega)).mono ?_; rintro e w5 ⟨rfl, g5⟩
  rw [k_pow]
  go_wp2
  go_ret
  exact ⟨rfl, (((g1.trans g2).trans g3).trans g4).trans g5⟩

/-- the reference's HasInverse -/
def hasInv (a m : Int) : Bool := decide (1 ≤ m ∧ m ≤ 4611686018427387904 ∧ (Int.gcd m (a % m) : Int) = 1)
theorem hasInv_any (a m : Int) (w : World) :
    Calls Try.prog 20 #[.int .i64 a, .int .i64 m] w fun e w' => e = .returned (.bool (hasInv a m)) ∧ w = w' := by
  by_cases h1 : 1 ≤ m
  · by_cases h2 : m ≤ 4611686018427387904
    · have x0 := Int.emod_nonneg a (by omega : m ≠ 0)
      have x1 := Int.emod_lt_of_pos a (by omega : 0 < m)
      have hG := gcdS_yes (a := a % m) (b := m) x0 (by omega)
      rw [Int.gcd_comm] at hG
      have hH : hasInv a m = decide ((Int.gcd m (a % m) : Int) = 1) := by unfold hasInv; simp [h1, h2]
      obtain ⟨g, eg⟩ : ∃ g, (Int.gcd m (a % m) : Int) = g := ⟨_, rfl⟩
      rw [eg] at hG hH
      rw [hH]
      have HG := Lib.hid hG
      clear hG hH eg
      go_enter Try.func20, Try.ntmps20
      go_wp2_with fail
      refine (rest_any a m _ h1 h2).mono ?_; rintro e w1 ⟨rfl, rfl⟩
      go_wp2_with fail
      refine (refGcd_any (a % m) m _ (by omega) (by omega)).mono ?_; rintro e w1 ⟨rfl, rfl⟩
      rw [HG.out]
      go_wp2
      go_ret
      exact ⟨ret_bool (by simp [Bool.beq_eq_decide_eq]), rfl⟩
    · have hH : hasInv a m = false := by unfold hasInv; simp; omega
      rw [hH]
      clear hH
      go_enter Try.func20, Try.ntmps20
      go_wp2
      go_ret
      exact ⟨rfl, rfl⟩
  · have hH : hasInv a m = false := by unfold hasInv; simp; omega
    rw [hH]
    have h1' : m < 1 := by omega
    clear hH
    go_enter Try.func20, Try.ntmps20
    go_wp2
    go_ret
    exact ⟨rfl, rfl⟩

/-- the reference's IsInverse, of one -/
theorem isInv_yes (a b m : Int) (w : World) (h1 : 1 ≤ m) (h2 : m ≤ 4611686018427387904) (b0 : 0 ≤ b) (b1 : b < m) (hi : (a * b) % m = 1 % m) :
    Calls Try.prog 21 #[.int .i64 a, .int .i64 b, .int .i64 m] w fun e w' => e = .returned (.bool true) ∧ w = w' := by
  have hM := mulS_yes (a := a) (b := b) h1 h2
  rw [hi] at hM
  have HM := Lib.hid hM
  have h3 : ¬ b < 0 := by omega
  have h4 : ¬ m ≤ b := by omega
  have h5 : ¬ m < 1 := by omega
  have h6 : ¬ 4611686018427387904 < m := by omega
  clear hi hM
  go_enter Try.func21, Try.ntmps21
  go_wp2_with fail
  refine (refMul_any a b m _).mono ?_; rintro e w1 ⟨rfl, rfl⟩
  rw [HM.out]
  go_wp2_with fail
  refine (rest_any 1 m _ h1 h2).mono ?_; rintro e w1 ⟨rfl, rfl⟩
  go_wp2
  go_ret
  exact ⟨rfl, rfl⟩

end Go.Proofs.Ytjbhpgcibhgmbaa
