/- math.Float64bits, Float64frombits and the reference's Finite (layer 3). -/
import Derived.Test.YtnclnbbnkfolgaaProg
import Derived.Test.YtnclnbbnkfolgaaBase
import Derived.Test.YtnclnbbnkfolgaaIeee3
import Derived.Laws.FloatArith
namespace Go.Proofs.Ytnclnbbnkfolgaa
open Go.RowKit

theorem run_bits (x : Nat) (w : World) : (callFunc 33 #[.float .f64 x]).run Try.prog w = .ok (.value (.int .u64 (x : Int))) w := by kernel_rfl
theorem run_frombits (x : Int) (w : World) : (callFunc 32 #[.int .u64 x]).run Try.prog w = .ok (.value (.float .f64 x.toNat)) w := by kernel_rfl

theorem finite_any (x : Nat) (w : World) :
    Calls Try.prog 26 #[.float .f64 x] w fun e w' => e = .returned (.bool (decide (x % 9223372036854775808 < 9218868437227405312))) ∧ w = w' := by
  have hr := run_bits x w
  have hB := Lib.hid (show decide (x % 9223372036854775808 < 9218868437227405312) = (IntKind.u64.wrap ((x : Int) * 2) / 9007199254740992 != 2047) from by
    rw [IntKind.wrap_u64]
    by_cases h : x % 9223372036854775808 < 9218868437227405312
    · rw [decide_eq_true h]; symm; rw [bne_iff_ne]; omega
    · rw [decide_eq_false h]; symm; rw [bne_eq_false_iff_eq]; omega)
  go_enter Try.func26, Try.ntmps26
  go_wp2
  go_ret
  exact ⟨ret_bool hB.out.symm, rfl⟩
end Go.Proofs.Ytnclnbbnkfolgaa
