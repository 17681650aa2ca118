/- The reference's Power, of exponents of normal floats, and Mild (layer 3). -/
import Derived.Test.YtknlpggbaahajaaRef3a
import Derived.Test.YtknlpggbaahajaaOrd
import Derived.Test.YtknlpggbaahajaaNeg
namespace Go.Proofs.Ytknlpggbaahajaa
open Go.RowKit

theorem power_norm (k : Int) (w : World) (h1 : -1022 ≤ k) (h2 : k ≤ 1023) :
    Calls Try.prog 30 #[.int .i64 k] w fun e w' => e = .returned (.float .f64 ((k + 1023) * 4503599627370496).toNat) ∧ w = w' := by
  have hr := fun w => run_frombits ((k + 1023) * 4503599627370496) w
  have hw : IntKind.u64.wrap ((k + 1023) * 4503599627370496) = (k + 1023) * 4503599627370496 := by rw [IntKind.wrap_u64]; omega
  go_enter Try.func30, Try.ntmps30
  go_wp2
  go_ret
  exact ⟨rfl, rfl⟩
end Go.Proofs.Ytknlpggbaahajaa
