/- The statements' own float: a float of given bits. -/
import Derived.Test.YtknlpggbaahajaaRef3a
namespace Go.Proofs.Ytknlpggbaahajaa
open Go.RowKit

theorem float_any (b : Int) (w : World) :
    Calls Try.prog 20 #[.int .i64 b] w fun r w' => r = .returned (.float .f64 (IntKind.u64.wrap b).toNat) ∧ (IntKind.u64.wrap b).toNat < 18446744073709551616 ∧ w = w' := by
  obtain ⟨u, hu⟩ : ∃ u : Nat, u = (IntKind.u64.wrap b).toNat := ⟨_, rfl⟩
  have eU : IntKind.u64.wrap b = (u : Int) := by rw [hu, IntKind.wrap_u64]; omega
  have u64 : u < 18446744073709551616 := by rw [hu, IntKind.wrap_u64]; omega
  have hr := fun w => run_frombits (u : Int) w
  rw [← hu]
  clear hu
  go_enter Try.func20, Try.ntmps20
  go_wp2
  go_ret
  exact ⟨by simp, u64, rfl⟩
end Go.Proofs.Ytknlpggbaahajaa
