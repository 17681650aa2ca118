/- eft.Split: a mild float in two halves. -/
import Derived.Test.YtknlpggbaahajaaSplitW
import Derived.Test.YtknlpggbaahajaaFop
namespace Go.Proofs.Ytknlpggbaahajaa
open Go.RowKit

theorem split_run {x c d h l : Nat} (w : World) (h1 : Ieee.double.mul 4728779608772575232 x = some c) (h2 : Ieee.double.sub c x = some d) (h3 : Ieee.double.sub c d = some h) (h4 : Ieee.double.sub x h = some l) :
    Calls Try.prog 15 #[.float .f64 x] w fun r w' => r = .returned (.tuple #[.float .f64 h, .float .f64 l]) ∧ w = w' := by
  have o1 := fun w => run_fmul (P := Try.prog) 22 h1 w
  have o2 := fun w => run_fsub (P := Try.prog) 22 h2 w
  have o3 := fun w => run_fsub (P := Try.prog) 22 h3 w
  have o4 := fun w => run_fsub (P := Try.prog) 22 h4 w
  clear h1 h2 h3 h4
  go_enter Try.func15, Try.ntmps15
  go_wp2
  go_ret2
  exact ⟨rfl, rfl⟩
end Go.Proofs.Ytknlpggbaahajaa
