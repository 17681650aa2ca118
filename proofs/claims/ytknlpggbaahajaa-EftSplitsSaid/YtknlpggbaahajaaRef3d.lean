/- The reference's Few (layer 3). -/
import Derived.Test.YtknlpggbaahajaaRef3a
import Derived.Test.YtknlpggbaahajaaFlt3
namespace Go.Proofs.Ytknlpggbaahajaa
open Go.RowKit

/-- m is fewer than 28 bits, times a power of two -/
structure FewN (m : Int) (k j : Nat) : Prop where
  eq : m = (k : Int) * 2 ^ j
  lt : k < 134217728
theorem FewN.half {m : Int} {k j : Nat} (h : FewN m k j) (hm : m % 2 = 0) : ∃ k' j', FewN (m / 2) k' j' := by
  cases j with
  | zero =>
    have e := h.eq
    rw [Int.pow_zero, Int.mul_one] at e
    exact ⟨k / 2, 0, by rw [Int.pow_zero, Int.mul_one]; omega, by have := h.lt; omega⟩
  | succ j =>
    refine ⟨k, j, ?_, h.lt⟩
    rw [h.eq, Int.pow_succ, ← Int.mul_assoc, Int.mul_ediv_cancel _ (by decide)]
theorem FewN.odd {m : Int} {k j : Nat} (h : FewN m k j) (hm : m % 2 ≠ 0) : m < 134217728 := by
  cases j with
  | zero =>
    have e := h.eq
    rw [Int.pow_zero, Int.mul_one] at e
    have := h.lt
    omega
  | succ j =>
    exfalso
    refine hm ?_
    rw [h.eq, Int.pow_succ, ← Int.mul_assoc]
    exact Int.mul_emod_left _ _
theorem few_true (x k j : Nat) (w : World) (h : FewN (pA x : Int) k j) :
    Calls Try.prog 16 #[.float .f64 x] w fun r w' => r = .returned (.bool true) ∧ w = w' := by
  have hA := pA_lt x
  obtain ⟨A, hAe⟩ : ∃ A : Int, A = (pA x : Int) := ⟨_, rfl⟩
  have A0 : 0 ≤ A := by omega
  have A1 : A < 9007199254740992 := by omega
  rw [← hAe] at h
  by_cases hs : pM x < 0
  · have eM : pM x = -A := by have := pM_abs x; omega
    have hs' : -A < 0 := by omega
    clear hs hAe hA
    go_enter Try.func16, Try.ntmps16
    go_wp2_with fail
    refine (parts_any x _).mono ?_; rintro r w1 ⟨rfl, rfl⟩
    rw [eM]
    go_wp2
    go_loop [3] (fun v => ∃ (m : Int) (k j : Nat), FewN m k j ∧ 0 ≤ m ∧ m < 9007199254740992 ∧ v = .int .i64 m) (fun v => (intOf v).toNat)
    case atStart => exact ⟨A, k, j, h, A0, A1, by simp⟩
    case round =>
      obtain ⟨m, k', j', hI, m0, m1, rfl⟩ := hrel
      by_cases hp : 0 < m
      · by_cases he : m % 2 = 0
        · obtain ⟨k2, j2, hN⟩ := hI.half he
          have t1 : (m % 2 == 0) = true := by rw [beq_iff_eq]; exact he
          clear he
          go_wp2
          go_round
          case rel => exact ⟨_, k2, j2, hN, by omega, by omega, rfl⟩
          case measure => simp [intOf]; omega
        · have hlt := hI.odd he
          have t1 : (m % 2 == 0) = false := by rw [beq_eq_false_iff_ne]; exact he
          clear he
          go_wp2
          go_ret
          exact ⟨rfl, rfl⟩
      · go_wp2
        go_ret
        exact ⟨ret_bool (by simp; omega), rfl⟩
  · have eM : pM x = A := by have := pM_abs x; omega
    have hs' : ¬ A < 0 := by omega
    clear hs hAe hA
    go_enter Try.func16, Try.ntmps16
    go_wp2_with fail
    refine (parts_any x _).mono ?_; rintro r w1 ⟨rfl, rfl⟩
    rw [eM]
    go_wp2
    go_loop [3] (fun v => ∃ (m : Int) (k j : Nat), FewN m k j ∧ 0 ≤ m ∧ m < 9007199254740992 ∧ v = .int .i64 m) (fun v => (intOf v).toNat)
    case atStart => exact ⟨A, k, j, h, A0, A1, by simp⟩
    case round =>
      obtain ⟨m, k', j', hI, m0, m1, rfl⟩ := hrel
      by_cases hp : 0 < m
      · by_cases he : m % 2 = 0
        · obtain ⟨k2, j2, hN⟩ := hI.half he
          have t1 : (m % 2 == 0) = true := by rw [beq_iff_eq]; exact he
          clear he
          go_wp2
          go_round
          case rel => exact ⟨_, k2, j2, hN, by omega, by omega, rfl⟩
          case measure => simp [intOf]; omega
        · have hlt := hI.odd he
          have t1 : (m % 2 == 0) = false := by rw [beq_eq_false_iff_ne]; exact he
          clear he
          go_wp2
          go_ret
          exact ⟨rfl, rfl⟩
      · go_wp2
        go_ret
        exact ⟨ret_bool (by simp; omega), rfl⟩
/-- a value with few bits has them in its whole number -/
theorem few_of {x : Nat} {n K : Int} {s : Nat} (hx : Flt.Num x n) (hn : n = K * 2 ^ s) (hK : K.natAbs < 134217728) : ∃ k j, FewN (pA x : Int) k j := by
  have hp := num_parts hx
  obtain ⟨t, ht⟩ : ∃ t, t = (pE x + 1074).toNat := ⟨_, rfl⟩
  rw [← ht] at hp
  have ha : pA x * 2 ^ t = K.natAbs * 2 ^ s := by
    have h1 : n.natAbs = pA x * 2 ^ t := by rw [hp, Int.natAbs_mul, Flt.natAbs_two, pM_abs]
    have h2 : n.natAbs = K.natAbs * 2 ^ s := by rw [hn, Int.natAbs_mul, Flt.natAbs_two]
    omega
  by_cases hst : t ≤ s
  · refine ⟨K.natAbs, s - t, ?_, hK⟩
    have h3 : pA x = K.natAbs * 2 ^ (s - t) := by
      have e : s = s - t + t := by omega
      rw [e, Nat.pow_add, ← Nat.mul_assoc] at ha
      exact Nat.eq_of_mul_eq_mul_right (Nat.pow_pos (by decide)) ha
    rw [h3, Int.natCast_mul, Int.natCast_pow]; rfl
  · refine ⟨pA x, 0, by simp, ?_⟩
    have e : t = t - s + s := by omega
    rw [e, Nat.pow_add, ← Nat.mul_assoc] at ha
    have h3 := Nat.eq_of_mul_eq_mul_right (Nat.pow_pos (by decide)) ha
    have h4 : pA x * 1 ≤ pA x * 2 ^ (t - s) := Nat.mul_le_mul_left _ Nat.one_le_two_pow
    omega
end Go.Proofs.Ytknlpggbaahajaa
