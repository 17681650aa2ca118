/- ref06's May: finite and at most 2^900. -/
import Derived.Test.YtnclnbbnkfolgaaRow6
import Derived.Test.YtnclnbbnkfolgaaBits3
import Derived.Test.YtnclnbbnkfolgaaOrd
namespace Go.Proofs.Ytnclnbbnkfolgaa
open Go.RowKit

theorem power_900 (w : World) : Calls Try.prog 27 #[.int .i64 900] w fun e w' => e = .returned (.float .f64 8660422083433463808) ∧ w = w' := by
  have hr := fun w => run_frombits 8660422083433463808 w
  go_enter Try.func27, Try.ntmps27
  go_wp2
  go_ret
  exact ⟨rfl, rfl⟩
theorem may_no (x : Nat) (w : World) (hf : ∀ w, Calls Try.prog 26 #[.float .f64 x] w fun e w' => e = .returned (.bool false) ∧ w = w') :
    Calls Try.prog 19 #[.float .f64 x] w fun e w' => e = .returned (.bool false) ∧ w = w' := by
  go_enter Try.func19, Try.ntmps19
  go_wp2_with fail
  refine (hf _).mono ?_; rintro r w1 ⟨rfl, rfl⟩
  go_wp2_with fail
  refine (power_900 _).mono ?_; rintro r w1 ⟨rfl, rfl⟩
  go_wp2
  go_ret
  exact ⟨rfl, rfl⟩
theorem may_run (x : Nat) (c1 c2 : Ordering) (w : World) (hf : ∀ w, Calls Try.prog 26 #[.float .f64 x] w fun e w' => e = .returned (.bool true) ∧ w = w')
    (o1 : FloatKind.f64.format.order x 8660422083433463808 = some c1) (o2 : FloatKind.f64.format.order (Op.negFloat .f64 x) 8660422083433463808 = some c2) :
    Calls Try.prog 19 #[.float .f64 x] w fun e w' => e = .returned (.bool (c1 != .gt && c2 != .gt)) ∧ w = w' := by
  have rn := fun w => run_neg (P := Try.prog) x w
  generalize Op.negFloat .f64 x = y at *
  cases c1 <;> cases c2 <;>
  · go_enter Try.func19, Try.ntmps19
    go_wp2_with fail
    refine (hf _).mono ?_; rintro r w1 ⟨rfl, rfl⟩
    go_wp2_with fail
    refine (power_900 _).mono ?_; rintro r w1 ⟨rfl, rfl⟩
    go_wp2
    go_ret
    exact ⟨rfl, rfl⟩
theorem may_any (x : Nat) (w : World) (hx : x < 18446744073709551616) :
    Calls Try.prog 19 #[.float .f64 x] w fun e w' => e = .returned (.bool (may6 x)) ∧ w = w' := by
  have hf := finite_any x
  by_cases h1 : x % 9223372036854775808 < 9218868437227405312
  · rw [decide_eq_true h1] at hf
    obtain ⟨y, hy⟩ : ∃ y, y = x % 9223372036854775808 := ⟨_, rfl⟩
    rw [← hy] at h1
    have key : ∀ c : Ordering, c = compare y 8660422083433463808 → (c != .gt) = may6 x := by
      rintro c rfl
      unfold may6
      rw [← hy]
      rcases Nat.lt_trichotomy y 8660422083433463808 with k | k | k
      · rw [Flt.cmp_lt k, decide_eq_true (by omega)]; rfl
      · rw [k, Flt.cmp_eq, decide_eq_true (by omega)]; rfl
      · rw [Flt.cmp_gt k, decide_eq_false (by omega)]; rfl
    have ow := Flt.order_words h1 (show (8660422083433463808 : Nat) < 9218868437227405312 by decide)
    have e64 : (2 : Nat) ^ 64 = 18446744073709551616 := rfl
    have hl : Flt.vI (y + 9223372036854775808) < Flt.vI 8660422083433463808 := by
      rw [Flt.v_neg rfl h1]
      have a := Flt.v_nonneg h1
      have b := Flt.v_lt (show 0 < 8660422083433463808 by decide) (by decide)
      have z : Flt.vI 0 = 0 := by rw [Flt.v_small (by decide)]; rfl
      rw [z] at b; omega
    have on : FloatKind.f64.format.order (y + 9223372036854775808) 8660422083433463808 = some .lt := by
      refine (Flt.order_num (Flt.num_of (by omega) (by omega)) (Flt.num_of (by omega) (by decide))).trans ?_
      simp [compare, compareOfLessAndEq, hl]
    by_cases hs : x < 9223372036854775808
    · have e : x = y := by omega
      have en : Op.negFloat .f64 x = y + 9223372036854775808 := by rw [neg_eq x hx, if_pos hs, e]
      refine (may_run x _ _ w hf (by rw [e]; exact ow) (by rw [en]; exact on)).mono ?_
      rintro _ w' ⟨rfl, g⟩
      refine ⟨?_, g⟩
      rw [key _ rfl]
      cases may6 x <;> rfl
    · have e : x = y + 9223372036854775808 := by omega
      have en : Op.negFloat .f64 x = y := by rw [neg_eq x hx, if_neg hs, e]; omega
      refine (may_run x _ _ w hf (by rw [e]; exact on) (by rw [en]; exact ow)).mono ?_
      rintro _ w' ⟨rfl, g⟩
      refine ⟨?_, g⟩
      rw [key _ rfl]
      cases may6 x <;> rfl
  · rw [decide_eq_false h1] at hf
    have e : may6 x = false := by unfold may6; rw [decide_eq_false (by omega)]
    rw [e]
    exact may_no x w hf
end Go.Proofs.Ytnclnbbnkfolgaa
